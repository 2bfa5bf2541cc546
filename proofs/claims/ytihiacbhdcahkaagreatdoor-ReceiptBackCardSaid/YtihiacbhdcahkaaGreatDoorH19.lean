/- rlp.Check. rlp.Encode. The landed package field: numbers, words, bytes, yes or no, as items. The landed package field: Texts. -/
import Derived.Test.YtihiacbhdcahkaaGreatDoorH18
import Derived.Defers
import Derived.Recover
import Derived.Test.YtihiacbhdcahkaaGreatDoorH13
import Derived.Test.YtihiacbhdcahkaaGreatDoorH11
import Derived.Test.YtihiacbhdcahkaaGreatDoorH16
import Derived.Laws.CopyRow
namespace Go.Proofs.YtihiacbhdcahkaaGreatDoor
open Go Go.RowKit

set_option maxRecDepth 100000 in
set_option maxHeartbeats 4000000 in
theorem catch_pan (p : Addr) (x : Value) (q : Nat) (w : World) (hc : w.cell? p = some x) (hz : w.frozen? p = false) :
    CallsD Tryz.prog 125 #[.pointer (some p)] (.panicking [{ v := .iface 28 (.int .i64 (q : Nat)), recovered := false }]) w fun e u' w' =>
      e = .returned (.tuple #[]) ∧ u' = .panicking [{ v := .iface 28 (.int .i64 (q : Nat)), recovered := true }] ∧ w' = w.setCell p (.int .i64 (q : Nat)) := by
  have hta : ∀ (v : Value) (w : World), (Instr.typeAssert (.iface 28 v) 20 28 false).run Tryz.prog w = .ok v w := fun v w => by
    simp [Instr.typeAssert, run_underlying Tryz.underlying28, go_sem, Result.andThen]
  refine callsD_of_wpS Tryz.func125 rfl fun c₀ cs hu => ?_
  apply wpS_seq
  apply wpS_region
  simp [wpOpsS, go_sem, recoverD, hu, Tryz.ntmps125, Exit.thenS]
  refine wpS_of_wp ?_
  simp only [Array.replicate_succ, Array.replicate_zero, List.push_toArray, List.append_toArray, List.nil_append, List.cons_append, List.setIfInBounds_toArray, List.set_cons_zero, List.set_cons_succ]
  go_wp2_with fail
  simp [bodyPostS, results, Tryz.results125]

theorem catch_idle (p : Addr) (w : World) :
    CallsD Tryz.prog 125 #[.pointer (some p)] .returning w fun e u' w' => e = .returned (.tuple #[]) ∧ u' = .returning ∧ w' = w := by
  refine callsD_of_wpS Tryz.func125 rfl fun c₀ cs hu => ?_
  apply wpS_seq
  apply wpS_region
  simp [wpOpsS, go_sem, recoverD, hu, Tryz.ntmps125, Exit.thenS]
  refine wpS_of_wp ?_
  simp only [Array.replicate_succ, Array.replicate_zero, List.push_toArray, List.append_toArray, List.nil_append, List.cons_append, List.setIfInBounds_toArray, List.set_cons_zero, List.set_cons_succ]
  go_wp2_with fail
  cases c₀
  simp_all [bodyPostS, results, Tryz.results125]

set_option maxRecDepth 100000 in
set_option maxHeartbeats 4000000 in
theorem check_any (l : Bool) (d : List UInt8) (xs : List M.It) (v : Value) (w : World) (hL : Lay w w.heap.size xs v) (hc : M.cntIs xs ≤ 4000) (hz : (M.bytesI (.mk l d xs)).length ≤ 4611686018427380000) :
    Calls Tryz.prog 82 #[iv l d v] w fun e w' => e = .returned (.int .i64 (M.checkI (.mk l d xs) : Nat)) ∧ Below w.heap.size w w' := by
  obtain ⟨a, cap, hv, _, _⟩ := hL.slice
  subst hv
  have hmf : ∀ (fn : Fn) (first cap : Array Value) (w : World), (Instr.makeFunc fn first cap).run Tryz.prog w = .ok (.func fn first cap) w := fun _ _ _ _ => rfl
  have hst : ∀ (W : World) (p : Addr) (F : Fn) (xa xb : Array Value), (W.cell? p).isSome = true → W.frozen? p = false → (store p (.func F xa xb)).run Tryz.prog W = .ok () (W.setCell p (.func F xa xb)) := by
    intro W p F xa xb h1 h2
    rw [run_store _ _ _ _ _ rfl]
    obtain ⟨x, hx⟩ := Option.isSome_iff_exists.1 h1
    rw [hx]
    simp [h2]
  obtain ⟨w0, hw0⟩ : ∃ w0, ((w.alloc (.cells #[.bool l, .string ⟨d.toArray⟩, .slice a xs.length cap] 45)).alloc (.cells #[.int .i64 0] 28)).alloc (.cells #[.func (.func 126) #[] #[.pointer (some ⟨w.heap.size + 1 + 1, 0, none⟩)]] 171) = w0 := ⟨_, rfl⟩
  have hb0 : Below w.heap.size w w0 := by rw [← hw0]; (repeat (first | exact Below.refl _ _ | refine Below.drew ?_ | refine Below.alloc ?_ (by first | omega | (simp; omega) | simp) _ | refine Below.setCell ?_ (by first | omega | (simp; omega) | simp) _))
  have hs0 : w0.heap.size = w.heap.size + 3 := by rw [← hw0]; simp
  have hB : Box w0 w.heap.size l d (.slice a xs.length cap) := by rw [← hw0]; exact ⟨by simp [go_sem], by simp [go_sem], by simp [go_sem]⟩
  have hr0 : w0.cell? ⟨w.heap.size + 1, 0, none⟩ = some (.int .i64 0) := by rw [← hw0]; simp [go_sem]
  have hf0 : w0.frozen? ⟨w.heap.size + 1, 0, none⟩ = false := by rw [← hw0]; simp [go_sem]
  have hl0 : w0.cell? ⟨w.heap.size + 1 + 1, 0, none⟩ = some (.func (.func 126) #[] #[.pointer (some ⟨w.heap.size + 1 + 1, 0, none⟩)]) := by rw [← hw0]; simp [go_sem]
  have HL := Lib.hid (look_n (w.heap.size + 1 + 1) _ l d xs _ w0 0 (Nat.le_refl _) ((hL.from_ hb0).mono (by omega)) hc (by omega) (by omega) hl0)
  have HS : Hid (∀ W, Below w0.heap.size w0 W → Calls Tryz.prog 129 #[iv l d (.slice a xs.length cap)] W fun e w' => e = .returned (.int .i64 ((M.bytesI (.mk l d xs)).length : Nat)) ∧ Below W.heap.size W w') :=
    fun W hb => size_any l d xs _ W ((hL.from_ (hb0.trans (hb.mono (by omega)))).mono (by have := hb.size; omega)) hc hz
  have hk : Hid (M.checkI (.mk l d xs) = if M.formI 0 (.mk l d xs) = 0 ∧ 65536 < (M.bytesI (.mk l d xs)).length then 5 else M.formI 0 (.mk l d xs)) := rfl
  generalize M.checkI (.mk l d xs) = c at *
  generalize M.formI 0 (.mk l d xs) = f at *
  generalize (M.bytesI (.mk l d xs)).length = s at *
  have HW := Lib.hid hw0
  clear hw0 hL hl0
  by_cases hf : f = 0
  · subst hf
    by_cases hlong : 65536 < s
    · have e : c = 5 := by rw [hk.out, if_pos ⟨rfl, hlong⟩]
      subst e
      go_enter_defers Tryz.func82, Tryz.ntmps82
      go_wp2_with fail
      rw [HW.out]
      refine HL.out.mono ?_
      rintro e w1 ⟨rfl, hb1⟩
      rw [orPan_0]
      have hB1 := hB.from_ hb1 (by omega)
      have x0 := hB1.c0
      have x1 := hB1.c1
      have x2 := hB1.c2
      go_wp2_with fail
      refine (HS.out _ hb1).mono ?_
      rintro e w2 ⟨rfl, hb2⟩
      go_wp2_with fail
      refine (giveUp_any 5 _ (by omega)).mono ?_
      rintro e w3 ⟨rfl, rfl⟩
      rw [orPan_ne (by omega)]
      go_wp2_with fail
      have hb3 : Below w0.heap.size w0 w3 := hb1.trans (hb2.mono hb1.size)
      obtain ⟨bc1, bc2⟩ := bcell hb3
      have y1 := (bc1 _ _ (show w.heap.size + 1 < w0.heap.size by omega)).trans hr0
      have y2 := (bc2 _ _ (show w.heap.size + 1 < w0.heap.size by omega)).trans hf0
      have hbq : Below w.heap.size w (w3.setCell ⟨w.heap.size + 1, 0, none⟩ (.int .i64 ((5 : Nat) : Int))) := (hb0.trans (hb3.mono (by omega))).setCell (by simp) _
      refine leaves_cons (f := 125) (args := #[.pointer (some ⟨w.heap.size + 1, 0, none⟩)]) (by simp) (by simp [go_sem]) ?_
      refine (catch_pan ⟨w.heap.size + 1, 0, none⟩ _ 5 _ y1 y2).mono ?_
      rintro e u' w4 ⟨rfl, rfl, rfl⟩
      have hrd : (w3.setCell ⟨w.heap.size + 1, 0, none⟩ (.int .i64 ((5 : Nat) : Int))).cell? ⟨w.heap.size + 1, 0, none⟩ = some (.int .i64 ((5 : Nat) : Int)) := World.cell?_setCell_same' _ _ _ (by rw [y1]; rfl)
      generalize w3.setCell ⟨w.heap.size + 1, 0, none⟩ (.int .i64 ((5 : Nat) : Int)) = w5 at *
      clear hb3 bc1 bc2 y1 y2
      simp [Leaves, settle, results, Tryz.results82, go_sem, hrd]
      exact hbq
    · have e : c = 0 := by rw [hk.out, if_neg (by omega)]
      subst e
      go_enter_defers Tryz.func82, Tryz.ntmps82
      go_wp2_with fail
      rw [HW.out]
      refine HL.out.mono ?_
      rintro e w1 ⟨rfl, hb1⟩
      rw [orPan_0]
      have hB1 := hB.from_ hb1 (by omega)
      have x0 := hB1.c0
      have x1 := hB1.c1
      have x2 := hB1.c2
      go_wp2_with fail
      refine (HS.out _ hb1).mono ?_
      rintro e w3 ⟨rfl, hb2⟩
      have hb3 : Below w0.heap.size w0 w3 := hb1.trans (hb2.mono hb1.size)
      obtain ⟨bc1, bc2⟩ := bcell hb3
      have y1 := (bc1 _ _ (show w.heap.size + 1 < w0.heap.size by omega)).trans hr0
      have y2 := (bc2 _ _ (show w.heap.size + 1 < w0.heap.size by omega)).trans hf0
      have hbq : Below w.heap.size w (w3.setCell ⟨w.heap.size + 1, 0, none⟩ (.int .i64 0)) := (hb0.trans (hb3.mono (by omega))).setCell (by simp) _
      clear bc1 bc2
      have hrd : (w3.setCell ⟨w.heap.size + 1, 0, none⟩ (.int .i64 0)).cell? ⟨w.heap.size + 1, 0, none⟩ = some (.int .i64 0) := World.cell?_setCell_same' _ _ _ (by rw [y1]; rfl)
      go_wp2_with fail
      generalize w3.setCell ⟨w.heap.size + 1, 0, none⟩ (.int .i64 0) = w5 at *
      refine leaves_cons (f := 125) (args := #[.pointer (some ⟨w.heap.size + 1, 0, none⟩)]) (by simp) (by simp [go_sem]) ?_
      refine (catch_idle ⟨w.heap.size + 1, 0, none⟩ _).mono ?_
      rintro e u' w4 ⟨rfl, rfl, rfl⟩
      clear hb3 y1 y2
      simp [Leaves, settle, results, Tryz.results82, go_sem, hrd]
      exact hbq
  · have e : c = f := by rw [hk.out, if_neg (by omega)]
    subst e
    go_enter_defers Tryz.func82, Tryz.ntmps82
    go_wp2_with fail
    rw [HW.out]
    refine HL.out.mono ?_
    rintro e w3 ⟨rfl, hb3⟩
    rw [orPan_ne hf]
    go_wp2_with fail
    obtain ⟨bc1, bc2⟩ := bcell hb3
    have y1 := (bc1 _ _ (show w.heap.size + 1 < w0.heap.size by omega)).trans hr0
    have y2 := (bc2 _ _ (show w.heap.size + 1 < w0.heap.size by omega)).trans hf0
    have hbq : Below w.heap.size w (w3.setCell ⟨w.heap.size + 1, 0, none⟩ (.int .i64 ((c : Nat) : Int))) := (hb0.trans (hb3.mono (by omega))).setCell (by simp) _
    refine leaves_cons (f := 125) (args := #[.pointer (some ⟨w.heap.size + 1, 0, none⟩)]) (by simp) (by simp [go_sem]) ?_
    refine (catch_pan ⟨w.heap.size + 1, 0, none⟩ _ c _ y1 y2).mono ?_
    rintro e u' w4 ⟨rfl, rfl, rfl⟩
    have hrd : (w3.setCell ⟨w.heap.size + 1, 0, none⟩ (.int .i64 ((c : Nat) : Int))).cell? ⟨w.heap.size + 1, 0, none⟩ = some (.int .i64 ((c : Nat) : Int)) := World.cell?_setCell_same' _ _ _ (by rw [y1]; rfl)
    generalize w3.setCell ⟨w.heap.size + 1, 0, none⟩ (.int .i64 ((c : Nat) : Int)) = w5 at *
    clear hb3 bc1 bc2 y1 y2
    simp [Leaves, settle, results, Tryz.results82, go_sem, hrd]
    exact hbq
end Go.Proofs.YtihiacbhdcahkaaGreatDoor
namespace Go.Proofs.YtihiacbhdcahkaaGreatDoor
open Go Go.RowKit

theorem Ow.conv {B : Nat} {l : List UInt8} {v : Value} {w : World} (h : Ow B l v w) (hne : l ≠ []) : (convert 76 9 v).run Tryz.prog w = .ok (.string ⟨l.toArray⟩) w := by
  have h' := h
  rcases h.2 with ⟨_, h1⟩ | ⟨g, cap, cur, rfl, hB, hg, h1⟩
  · exact absurd (List.eq_nil_of_length_eq_zero h1) hne
  · refine run_convert_bytes_back w 76 9 5 ⟨g, 0, none⟩ cap l Tryz.underlying76 Tryz.underlying5 Tryz.underlying9 ?_
    intro j hj
    exact World.ownsRow.cells h' (g := g) rfl j _ (by simp [bc, hj])

set_option maxRecDepth 100000 in
set_option maxHeartbeats 4000000 in
theorem encode_any (l : Bool) (d : List UInt8) (xs : List M.It) (v : Value) (w : World) (hL : Lay w w.heap.size xs v) (hc : M.cntIs xs ≤ 4000) (hz : (M.bytesI (.mk l d xs)).length ≤ 4611686018427380000) :
    Calls Tryz.prog 46 #[iv l d v] w fun e w' => e = .returned (.tuple #[.string ⟨(M.encodeI (.mk l d xs)).1.toArray⟩, .int .i64 ((M.encodeI (.mk l d xs)).2 : Nat)]) ∧ Below w.heap.size w w' := by
  obtain ⟨a, cap, hv, _, _⟩ := hL.slice
  subst hv
  have hb0 : Below w.heap.size w (w.alloc (.cells #[.bool l, .string ⟨d.toArray⟩, .slice a xs.length cap] 45)) := by (repeat (first | exact Below.refl _ _ | refine Below.drew ?_ | refine Below.alloc ?_ (by first | omega | (simp; omega) | simp) _ | refine Below.setCell ?_ (by first | omega | (simp; omega) | simp) _))
  have hB := Box.new w l d (.slice a xs.length cap) 45
  have hf : Hid (∀ W, Below w.heap.size w W → Calls Tryz.prog 82 #[iv l d (.slice a xs.length cap)] W fun e w' => e = .returned (.int .i64 (M.checkI (.mk l d xs) : Nat)) ∧ Below W.heap.size W w') :=
    fun W hb => check_any l d xs _ W ((hL.from_ hb).mono hb.size) hc hz
  have hg : Hid (M.checkI (.mk l d xs) = 0 → ∀ W, Below w.heap.size w W → Calls Tryz.prog 83 #[iv l d (.slice a xs.length cap), .func (.func 84) #[] #[], .func (.func 86) #[] #[], .func (.func 87) #[] #[]] W fun e w' => (∃ u, e = .returned u ∧ Ow W.heap.size (M.bytesI (.mk l d xs)) u w') ∧ Below W.heap.size W w') :=
    fun hk W hb => foldb_any enc_folds l d xs _ W ((hL.from_ hb).mono hb.size) hc (M.checkI_ok.1 hk).2
  have hne : Hid (M.bytesI (.mk l d xs) ≠ []) := fun h => M.bytesI_ne (.mk l d xs) (by rw [h]; rfl)
  have hk : Hid (M.encodeI (.mk l d xs) = if M.checkI (.mk l d xs) = 0 then (M.bytesI (.mk l d xs), 0) else ([], M.checkI (.mk l d xs))) := rfl
  generalize M.encodeI (.mk l d xs) = q at *
  generalize M.checkI (.mk l d xs) = f at *
  generalize M.bytesI (.mk l d xs) = b at *
  clear hL
  by_cases hf0 : f = 0
  · subst hf0
    have e : q = (b, 0) := by rw [hk.out, if_pos rfl]
    subst e
    go_enter Tryz.func46, Tryz.ntmps46
    go_wp2_with fail
    refine (hf.out _ hb0).mono ?_
    rintro e w1 ⟨rfl, hb1⟩
    have hB1 := hB.from_ hb1 (by simp)
    have hc0 := hB1.c0
    have hc1 := hB1.c1
    have hc2 := hB1.c2
    have hb01 : Below w.heap.size w w1 := hb0.trans (hb1.mono (by simp))
    go_wp2_with fail
    refine (hg.out trivial _ hb01).mono ?_
    rintro e w2 ⟨⟨u, rfl, hu⟩, hb2⟩
    have hcv := hu.conv hne.out
    go_wp2_with fail
    go_ret2
    exact ⟨rfl, hb01.trans (hb2.mono hb01.size)⟩
  · have e : q = ([], f) := by rw [hk.out, if_neg hf0]
    subst e
    have hne : ((f : Int) != 0) = true := by rw [bne_iff_ne]; omega
    go_enter Tryz.func46, Tryz.ntmps46
    go_wp2_with fail
    refine (hf.out _ hb0).mono ?_
    rintro e w1 ⟨rfl, hb1⟩
    go_wp2_with fail
    go_ret2
    exact ⟨rfl, hb0.trans (hb1.mono (by simp))⟩
end Go.Proofs.YtihiacbhdcahkaaGreatDoor
namespace Go.Proofs.YtihiacbhdcahkaaGreatDoor
open Go Go.RowKit

set_option maxRecDepth 100000 in
set_option maxHeartbeats 4000000 in
theorem field_text : FTextOk := by
  intro s w hs
  have HB := Lib.hid (fun W => clone_any s W (Nat.le_trans hs (by decide)))
  obtain ⟨w0, hw0⟩ : ∃ w0, w.alloc (.cells #[.bool false, .string ⟨#[]⟩, .slice none 0 0] 45) = w0 := ⟨_, rfl⟩
  have hb0 : Below w.heap.size w w0 := by rw [← hw0]; (repeat (first | exact Below.refl _ _ | refine Below.drew ?_ | refine Below.alloc ?_ (by first | omega | (simp; omega) | simp) _ | refine Below.setCell ?_ (by first | omega | (simp; omega) | simp) _))
  have hz0 : w0.heap.size = w.heap.size + 1 := by rw [← hw0]; simp
  have hrow0 : w0.heap[w.heap.size]? = some (.cells #[.bool false, .string ⟨#[]⟩, .slice none 0 0] 45 (0, 0)) := by rw [← hw0]; exact heap_alloc_new w _
  have HW := Lib.hid hw0
  clear hw0
  go_enter Tryz.func42, Tryz.ntmps42
  go_wp2_with fail
  rw [HW.out]
  refine (HB.out _).mono ?_
  rintro e w1 ⟨rfl, hb1⟩
  have hb : Below w.heap.size w w1 := hb0.trans (hb1.mono (by omega))
  have hrow : w1.heap[w.heap.size]? = _ := (hb1.block _ (by omega)).trans hrow0
  clear hb1 hb0 hrow0 HW hz0
  obtain ⟨⟨_, z0⟩, ⟨_, z1⟩, ⟨_, z2⟩, y0, y1, y2⟩ := cells_three hrow
  go_wp2_with fail
  refine rf_post rfl w w1 _ false _ _ w.heap.size (Nat.le_refl _) hb _ _ _ hrow _ ?_ (fun Z hZ _ _ => ⟨rfl, hZ⟩)
  rfl

set_option maxRecDepth 100000 in
set_option maxHeartbeats 4000000 in
theorem field_number : FNumberOk := by
  intro n w hn
  have HB := Lib.hid (fun W => nbe_any n W hn)
  rw [show M.tr (M.f32 n) = M.ben n from rfl] at HB
  have hlen : (M.ben n).length ≤ longS := by
    have := M.tr_length_le (M.f32 n)
    rw [M.f32_length] at this
    exact Nat.le_trans this (by decide)
  have HT := Lib.hid (fun W => field_text (M.ben n) W hlen)
  obtain ⟨w0, hw0⟩ : ∃ w0, w.alloc (.cells #[.bool false, .string ⟨#[]⟩, .slice none 0 0] 45) = w0 := ⟨_, rfl⟩
  have hb0 : Below w.heap.size w w0 := by rw [← hw0]; (repeat (first | exact Below.refl _ _ | refine Below.drew ?_ | refine Below.alloc ?_ (by first | omega | (simp; omega) | simp) _ | refine Below.setCell ?_ (by first | omega | (simp; omega) | simp) _))
  have hz0 : w0.heap.size = w.heap.size + 1 := by rw [← hw0]; simp
  have hrow0 : w0.heap[w.heap.size]? = some (.cells #[.bool false, .string ⟨#[]⟩, .slice none 0 0] 45 (0, 0)) := by rw [← hw0]; exact heap_alloc_new w _
  have HW := Lib.hid hw0
  clear hw0
  go_enter Tryz.func23, Tryz.ntmps23
  go_wp2_with fail
  rw [HW.out]
  refine (HB.out _).mono ?_
  rintro e w1 ⟨rfl, hb1⟩
  go_wp2_with fail
  refine (HT.out _).mono ?_
  rintro e w2 ⟨rfl, hb2⟩
  have hb1 := hb1.trans (hb2.mono hb1.size)
  have hb : Below w.heap.size w w2 := hb0.trans (hb1.mono (by omega))
  have hrow : w2.heap[w.heap.size]? = _ := (hb1.block _ (by omega)).trans hrow0
  clear hb1 hb0 hrow0 HW hz0
  obtain ⟨⟨_, z0⟩, ⟨_, z1⟩, ⟨_, z2⟩, y0, y1, y2⟩ := cells_three hrow
  go_wp2_with fail
  refine rf_post rfl w w2 _ false _ _ w.heap.size (Nat.le_refl _) hb _ _ _ hrow _ ?_ (fun Z hZ _ _ => ⟨rfl, hZ⟩)
  rfl

set_option maxRecDepth 100000 in
set_option maxHeartbeats 4000000 in
theorem field_bool : FBoolOk := by
  intro v w
  have H0 := Lib.hid (fun W => field_text [] W (by decide))
  have H1 := Lib.hid (fun W => field_text [1] W (by decide))
  obtain ⟨w0, hw0⟩ : ∃ w0, w.alloc (.cells #[.bool false, .string ⟨#[]⟩, .slice none 0 0] 45) = w0 := ⟨_, rfl⟩
  have hb0 : Below w.heap.size w w0 := by rw [← hw0]; (repeat (first | exact Below.refl _ _ | refine Below.drew ?_ | refine Below.alloc ?_ (by first | omega | (simp; omega) | simp) _ | refine Below.setCell ?_ (by first | omega | (simp; omega) | simp) _))
  have hz0 : w0.heap.size = w.heap.size + 1 := by rw [← hw0]; simp
  have hrow0 : w0.heap[w.heap.size]? = some (.cells #[.bool false, .string ⟨#[]⟩, .slice none 0 0] 45 (0, 0)) := by rw [← hw0]; exact heap_alloc_new w _
  have HW := Lib.hid hw0
  clear hw0
  cases v with
  | false =>
    go_enter Tryz.func22, Tryz.ntmps22
    go_wp2_with fail
    rw [HW.out]
    refine (H0.out _).mono ?_
    rintro e w1 ⟨rfl, hb1⟩
    have hb : Below w.heap.size w w1 := hb0.trans (hb1.mono (by omega))
    have hrow : w1.heap[w.heap.size]? = _ := (hb1.block _ (by omega)).trans hrow0
    clear hb1 hb0 hrow0 HW hz0
    obtain ⟨⟨_, z0⟩, ⟨_, z1⟩, ⟨_, z2⟩, y0, y1, y2⟩ := cells_three hrow
    go_wp2_with fail
    refine rf_post rfl w w1 _ false _ _ w.heap.size (Nat.le_refl _) hb _ _ _ hrow _ ?_ (fun Z hZ _ _ => ⟨rfl, hZ⟩)
    rfl
  | true =>
    go_enter Tryz.func22, Tryz.ntmps22
    go_wp2_with fail
    rw [HW.out]
    refine (H1.out _).mono ?_
    rintro e w1 ⟨rfl, hb1⟩
    have hb : Below w.heap.size w w1 := hb0.trans (hb1.mono (by omega))
    have hrow : w1.heap[w.heap.size]? = _ := (hb1.block _ (by omega)).trans hrow0
    clear hb1 hb0 hrow0 HW hz0
    obtain ⟨⟨_, z0⟩, ⟨_, z1⟩, ⟨_, z2⟩, y0, y1, y2⟩ := cells_three hrow
    go_wp2_with fail
    refine rf_post rfl w w1 _ false _ _ w.heap.size (Nat.le_refl _) hb _ _ _ hrow _ ?_ (fun Z hZ _ _ => ⟨rfl, hZ⟩)
    rfl
end Go.Proofs.YtihiacbhdcahkaaGreatDoor
namespace Go.Proofs.YtihiacbhdcahkaaGreatDoor
open Go Go.RowKit

theorem Tx.nil (cur : Array Value) : Tx cur [] := fun i s h => by simp at h
/-- One item more, in the cells. -/
def put3 (cur : Array Value) (k : Nat) (s : List UInt8) : Array Value := ((cur.setIfInBounds (k * 3) (.bool false)).setIfInBounds (k * 3 + 1) (.string ⟨s.toArray⟩)).setIfInBounds (k * 3 + 2) (.slice none 0 0)
theorem put3_size (cur : Array Value) (k : Nat) (s : List UInt8) : (put3 cur k s).size = cur.size := by simp [put3]
theorem Tx.put {cur : Array Value} {ls : List (List UInt8)} {k : Nat} {s : List UInt8} (h : Tx cur (ls.take k)) (hk : k * 3 + 3 ≤ cur.size) (hs : ls[k]? = some s) : Tx (put3 cur k s) (ls.take (k + 1)) := by
  intro i t hi
  have hik : i < k + 1 := by
    have := (List.getElem?_eq_some_iff.1 hi).1
    rw [List.length_take] at this
    omega
  rw [List.getElem?_take, if_pos hik] at hi
  unfold put3
  by_cases e : i = k
  · subst e
    rw [hs] at hi
    cases hi
    refine ⟨?_, ?_, none, 0, ?_, by decide⟩
    · rw [Array.getElem?_setIfInBounds_ne (by omega), Array.getElem?_setIfInBounds_ne (by omega), Array.getElem?_setIfInBounds_self_of_lt (by omega)]
    · rw [Array.getElem?_setIfInBounds_ne (by omega), Array.getElem?_setIfInBounds_self_of_lt (by simp; omega)]
    · rw [Array.getElem?_setIfInBounds_self_of_lt (by simp; omega)]
  · have hne : ∀ j, j < 3 → ∀ (x y z : Value), (((cur.setIfInBounds (k * 3) x).setIfInBounds (k * 3 + 1) y).setIfInBounds (k * 3 + 2) z)[i * 3 + j]? = cur[i * 3 + j]? := fun j hj x y z => by
      rw [Array.getElem?_setIfInBounds_ne (by omega), Array.getElem?_setIfInBounds_ne (by omega), Array.getElem?_setIfInBounds_ne (by omega)]
    obtain ⟨c0, c1, a, cap, c2, hm⟩ := h i t (by rw [List.getElem?_take, if_pos (by omega)]; exact hi)
    exact ⟨(hne 0 (by omega) _ _ _).trans c0, (hne 1 (by omega) _ _ _).trans c1, a, cap, (hne 2 (by omega) _ _ _).trans c2, hm⟩
theorem set_three_at {w : World} {g a b c : Nat} {cur : Array Value} {t : TypeId} (h : w.heap[g]? = some (.cells cur t (0, 0))) (x y z : Value) :
    ((w.setCell ⟨g, a, none⟩ x).setCell ⟨g, b, none⟩ y).setCell ⟨g, c, none⟩ z = w.setRow g (((cur.setIfInBounds a x).setIfInBounds b y).setIfInBounds c z) := by
  have e1 := setCell_eq_setRow w g a cur t (0, 0) x h
  have h1 := setRow_heap w g cur (cur.setIfInBounds a x) t (0, 0) h
  have e2 := setCell_eq_setRow (w.setRow g (cur.setIfInBounds a x)) g b _ t (0, 0) y h1
  have h2 := setRow_heap _ g _ ((cur.setIfInBounds a x).setIfInBounds b y) t (0, 0) h1
  have e3 := setCell_eq_setRow _ g c _ t (0, 0) z h2
  rw [e1, e2, e3, setRow_setRow, setRow_setRow]

set_option maxRecDepth 100000 in
set_option maxHeartbeats 4000000 in
theorem field_texts : FTextsOk := by
  intro ls a cap w hL hl hs
  obtain ⟨i, hi, hz0, hz1, hz2⟩ := info_parts Tryz.ofItem
  have hmk : ∀ W : World, (Instr.makeSlice 43 (.int .i64 (ls.length : Int)) (.int .i64 (ls.length : Int))).run Tryz.prog W = .ok (.slice (some ⟨W.heap.size, 0, none⟩) ls.length ls.length) (W.alloc (.cells (madeCells (Value.agg #[.bool false, .string ⟨#[]⟩, .slice none 0 0]).cells (ls.length * 3)) 45)) := fun W => by
    have h := run_make (P := Tryz.prog) W 43 45 i _ Tryz.underlying43 hi hz0 .i64 .i64 (ls.length : Int) (ls.length : Int) (by omega) (by omega) (by rw [hz2]; omega) (by omega)
    simpa [hz1] using h
  obtain ⟨m, hm⟩ : ∃ m, m = madeCells (Value.agg #[.bool false, .string ⟨#[]⟩, .slice none 0 0]).cells (ls.length * 3) := ⟨_, rfl⟩
  have hms : m.size = ls.length * 3 := by rw [hm, size_madeCells]
  rw [← hm] at hmk
  clear hm
  obtain ⟨wx, hwx⟩ : ∃ wx, w.alloc (.cells #[.bool false, .string ⟨#[]⟩, .slice none 0 0] 45) = wx := ⟨_, rfl⟩
  have hbx : Below w.heap.size w wx := by rw [← hwx]; (repeat (first | exact Below.refl _ _ | refine Below.drew ?_ | refine Below.alloc ?_ (by first | omega | (simp; omega) | simp) _ | refine Below.setCell ?_ (by first | omega | (simp; omega) | simp) _))
  have hzx : wx.heap.size = w.heap.size + 1 := by rw [← hwx]; simp
  have hrowx : wx.heap[w.heap.size]? = some (.cells #[.bool false, .string ⟨#[]⟩, .slice none 0 0] 45 (0, 0)) := by rw [← hwx]; exact heap_alloc_new w _
  have HMK := Lib.hid (hmk wx)
  clear hmk
  obtain ⟨w0, hw0⟩ : ∃ w0, wx.alloc (.cells m 45) = w0 := ⟨_, rfl⟩
  have hb0 : Below wx.heap.size wx w0 := by rw [← hw0]; (repeat (first | exact Below.refl _ _ | refine Below.drew ?_ | refine Below.alloc ?_ (by first | omega | (simp; omega) | simp) _ | refine Below.setCell ?_ (by first | omega | (simp; omega) | simp) _))
  have hz0' : w0.heap.size = wx.heap.size + 1 := by rw [← hw0]; simp
  have hrow0 : w0.heap[wx.heap.size]? = some (.cells m 45 (0, 0)) := by rw [← hw0]; exact heap_alloc_new wx _
  have hmk := HMK.out
  rw [hw0, hzx, ← hwx] at hmk
  have HX := Lib.hid hwx
  have HS := Lib.hid hs
  have HL := Lib.hid hL
  clear hwx hw0 HMK hs hL hi hz0 hz1 hz2
  go_enter Tryz.func48, Tryz.ntmps48
  go_wp2_with fail
  have hmk := Lib.hid hmk
  have hg : wx.heap.size = w.heap.size + 1 := hzx
  go_loopw [11] (fun i wr => ∃ (k : Nat) (cur : Array Value), k ≤ ls.length ∧ i = .int .i64 k ∧ wr.heap[w.heap.size + 1]? = some (.cells cur 45 (0, 0)) ∧ cur.size = ls.length * 3 ∧ Tx cur (ls.take k) ∧ Below (w.heap.size + 1) w0 wr) (fun i _ => ls.length - (intOf i).toNat)
  case atStart => exact ⟨0, m, by omega, rfl, by rw [← hg]; exact hrow0, hms, by rw [List.take_zero]; exact Tx.nil m, Below.refl _ _⟩
  case round =>
    obtain ⟨k, cur, hk, rfl, hrow, hcs, hT, hb⟩ := hrel
    have hwr : Below w.heap.size w wr := hbx.trans ((hb0.trans (hb.mono (by omega))).mono (by omega))
    have hsz : w.heap.size + 1 < wr.heap.size := (Array.getElem?_eq_some_iff.1 hrow).1
    by_cases hlt : k < ls.length
    · have hk2 : k < 600 := by omega
      obtain ⟨b, o, s, rfl, hbn, hks, cs⟩ := (HL.out.from_ hwr).at_ hlt
      have HT := Lib.hid (fun W => field_text s W (HS.out s (List.mem_of_getElem? hks)))
      go_wp2_with fail
      refine (HT.out _).mono ?_
      rintro e w2 ⟨rfl, hb2⟩
      have hrow2 := (hb2.block _ hsz).trans hrow
      have hz : k * 3 + 3 ≤ cur.size := by omega
      have z0 : w2.cell? ⟨w.heap.size + 1, k * 3, none⟩ = some cur[k * 3] := by simp [World.cell?, hrow2, show k * 3 < cur.size by omega]
      have z1 : w2.cell? ⟨w.heap.size + 1, k * 3 + 1, none⟩ = some cur[k * 3 + 1] := by simp [World.cell?, hrow2, show k * 3 + 1 < cur.size by omega]
      have z2 : w2.cell? ⟨w.heap.size + 1, k * 3 + 2, none⟩ = some cur[k * 3 + 2] := by simp [World.cell?, hrow2, show k * 3 + 2 < cur.size by omega]
      have y0 : ∀ j, w2.frozen? ⟨w.heap.size + 1, j, none⟩ = false := fun j => by simp [World.frozen?, hrow2]
      have hrow3 := setRow_heap w2 (w.heap.size + 1) cur (put3 cur k s) _ (0, 0) hrow2
      have hb3 : Below (w.heap.size + 1) w0 (w2.setRow (w.heap.size + 1) (put3 cur k s)) := (hb.trans (hb2.mono (by omega))).trans ⟨rfl, rfl, rfl, by simp, fun j hj => setRow_other _ _ _ _ (by omega)⟩
      have hT3 := hT.put (s := s) (by omega) hks
      have hcs3 : (put3 cur k s).size = ls.length * 3 := by rw [put3_size]; exact hcs
      have hw3 := set_three_at hrow2 (a := k * 3) (b := k * 3 + 1) (c := k * 3 + 2) (.bool false) (.string ⟨s.toArray⟩) (.slice none 0 0)
      change _ = w2.setRow (w.heap.size + 1) (put3 cur k s) at hw3
      generalize w2.setRow (w.heap.size + 1) (put3 cur k s) = w3 at *
      generalize put3 cur k s = cur3 at *
      generalize cur[k * 3] = v0 at *
      generalize cur[k * 3 + 1] = v1 at *
      generalize cur[k * 3 + 2] = v2 at *
      have HW3 := Lib.hid hw3
      clear hw3 hrow2 hb2 hT hrow
      go_wp2_with fail
      rw [HW3.out]
      go_roundw
      case rel => exact ⟨k + 1, cur3, by omega, by simp, hrow3, hcs3, hT3, hb3⟩
      case measure => simp [intOf]; omega
    · obtain rfl : k = ls.length := by omega
      rw [List.take_length] at hT
      have hrowr := (hb.block w.heap.size (by omega)).trans ((hb0.block w.heap.size (by omega)).trans hrowx)
      obtain ⟨⟨_, z0⟩, ⟨_, z1⟩, ⟨_, z2⟩, y0, y1, y2⟩ := cells_three hrowr
      go_wp2_with fail
      refine rf_post rfl w wr _ true [] (.slice (some ⟨w.heap.size + 1, 0, none⟩) ls.length ls.length) w.heap.size (Nat.le_refl _) hwr _ _ _ hrowr _ rfl (fun Z hZ hz ho => ⟨⟨_, ls.length, rfl, ?_⟩, hZ⟩)
      have hF := Tx.lay (S := fun b => b < Z.heap.size) hT ((ho (w.heap.size + 1) (by omega)).trans hrow) (by omega) (Nat.le_refl _) (by simp only [maxLen]; omega)
      exact hF.lay fun b h => h
end Go.Proofs.YtihiacbhdcahkaaGreatDoor
