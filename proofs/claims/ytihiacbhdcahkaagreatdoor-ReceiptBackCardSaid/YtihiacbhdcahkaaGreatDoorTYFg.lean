/- unrlp.Decode: what it tells lies in blocks of its own. -/
import Derived.Test.YtihiacbhdcahkaaGreatDoorH22
import Derived.Test.YtihiacbhdcahkaaGreatDoorH25
namespace Go.Proofs.YtihiacbhdcahkaaGreatDoor
open Go Go.RowKit Go.Shelf

def DecF : Prop := ∀ (s : List UInt8) (W : World), s.length ≤ 200000 → Calls Tryz.prog 62 #[.string ⟨s.toArray⟩] W fun e w' =>
  (∃ l d xs a cap, e = .returned (.tuple #[iv l d (.slice a xs.length cap), .int .i64 ((M.decodeL s).2 : Nat)]) ∧ (M.decodeL s).1 = .mk l d xs ∧ Fresh W.heap.size w' xs (.slice a xs.length cap)) ∧ Below W.heap.size W w'
theorem dec_postF (w w1 : World) (tmps : Array Value) (l : Bool) (d : List UInt8) (xs : List M.It) (a : Option Addr) (cap er : Nat) (hB : Below w.heap.size w w1) (o0 : Value) (o1 : Value) (o2 : Value)
    (hrow : w1.heap[w.heap.size]? = some (.cells #[o0, o1, o2] 45 (0, 0))) (hF : LayS w1 (fun b => w.heap.size < b ∧ b < w1.heap.size) xs (.slice a xs.length cap)) (R : Ending → World → Prop)
    (h6 : tmps.getD 2 undef = .pointer (some ⟨w.heap.size, 0, none⟩)) (h7 : tmps.getD 3 undef = .int .i64 (er : Nat))
    (h : ∀ Z, Fresh w.heap.size Z xs (.slice a xs.length cap) → Below w.heap.size w Z → R (.returned (.tuple #[iv l d (.slice a xs.length cap), .int .i64 (er : Nat)])) Z) :
    bodyPost Tryz.prog Tryz.f62 R .ret { tmps := tmps, defers := [] } (((w1.setCell ⟨w.heap.size, 0, none⟩ (.bool l)).setCell ⟨w.heap.size, 1, none⟩ (.string ⟨d.toArray⟩)).setCell ⟨w.heap.size, 2, none⟩ (.slice a xs.length cap)) := by
  rw [set_three hrow]
  have hg : (w1.setRow w.heap.size #[.bool l, .string ⟨d.toArray⟩, .slice a xs.length cap]).heap[w.heap.size]? = some (.cells #[.bool l, .string ⟨d.toArray⟩, .slice a xs.length cap] 45 (0, 0)) := setRow_heap _ _ _ _ _ (0, 0) hrow
  have hz : (w1.setRow w.heap.size #[.bool l, .string ⟨d.toArray⟩, .slice a xs.length cap]).heap.size = w1.heap.size := by simp
  have ho : ∀ b, b ≠ w.heap.size → (w1.setRow w.heap.size #[.bool l, .string ⟨d.toArray⟩, .slice a xs.length cap]).heap[b]? = w1.heap[b]? := fun b hb => setRow_other _ _ _ _ (fun e => hb (by simpa using e))
  have hb2 : Below w.heap.size w1 (w1.setRow w.heap.size #[.bool l, .string ⟨d.toArray⟩, .slice a xs.length cap]) := ⟨rfl, rfl, rfl, by omega, fun b hb => ho b (by omega)⟩
  have hl : Fresh w.heap.size (w1.setRow w.heap.size #[.bool l, .string ⟨d.toArray⟩, .slice a xs.length cap]) xs (.slice a xs.length cap) := hF.keep (T := fun b => w.heap.size ≤ b ∧ b < (w1.setRow w.heap.size #[.bool l, .string ⟨d.toArray⟩, .slice a xs.length cap]).heap.size) (W := w1.setRow w.heap.size #[.bool l, .string ⟨d.toArray⟩, .slice a xs.length cap]) fun b ⟨h1, h2⟩ => ⟨by omega, ho b (by omega)⟩
  have := results_cell_one (fn := Tryz.f62) rfl tmps Tryz.prog (w1.setRow w.heap.size #[.bool l, .string ⟨d.toArray⟩, .slice a xs.length cap]) ⟨w.heap.size, 0, none⟩ (.agg #[.bool l, .string ⟨d.toArray⟩, .slice a xs.length cap]) h6
    (run_loadVar_row _ _ _ _ _ (0, 0) _ hg Tryz.underlying45 rfl Tryz.itemSize)
  rw [h7] at this
  exact bodyPost_ret this rfl (h _ hl (hB.trans hb2))

set_option maxRecDepth 100000 in
set_option maxHeartbeats 8000000 in
theorem dec_fresh : DecF := by
  intro s w hs
  obtain ⟨w0, hw0⟩ : ∃ w0, w.alloc (.cells #[.bool false, .string ⟨#[]⟩, .slice none 0 0] 45) = w0 := ⟨_, rfl⟩
  have hb0 : Below w.heap.size w w0 := by rw [← hw0]; (repeat (first | exact Below.refl _ _ | refine Below.drew ?_ | refine Below.alloc ?_ (by first | omega | (simp; omega) | simp) _ | refine Below.setCell ?_ (by first | omega | (simp; omega) | simp) _))
  have hz0 : w0.heap.size = w.heap.size + 1 := by rw [← hw0]; simp
  have hrow0 : w0.heap[w.heap.size]? = some (.cells #[.bool false, .string ⟨#[]⟩, .slice none 0 0] 45 (0, 0)) := by rw [← hw0]; exact heap_alloc_new w _
  obtain ⟨⟨_, z0⟩, ⟨_, z1⟩, ⟨_, z2⟩, y0, y1, y2⟩ := cells_three hrow0
  by_cases hlong : 65536 < s.length
  · have hl' : (65536 : Int) < (s.length : Nat) := by omega
    have e : M.decodeL s = (M.zeroI, 5) := by unfold M.decodeL; rw [if_pos hlong]
    rw [e]
    go_enter Tryz.func62, Tryz.ntmps62
    go_wp2_with fail
    refine dec_postF w w0 _ false [] [] none 0 5 hb0 _ _ _ hrow0 (.nil_ (by decide)) _ ?_ ?_ ?_
    · rfl
    · rfl
    · exact fun Z e2 e3 => ⟨⟨false, [], [], none, 0, rfl, rfl, e2⟩, e3⟩
  · have hl' : ¬ (65536 : Int) < (s.length : Nat) := by omega
    have e : M.decodeL s = if (M.readT (2 * s.length + 1) s 0).2.2 ≠ 0 then (M.zeroI, (M.readT (2 * s.length + 1) s 0).2.2)
        else if (M.readT (2 * s.length + 1) s 0).2.1 ≠ [] then (M.zeroI, 4) else ((M.readT (2 * s.length + 1) s 0).1, 0) := by unfold M.decodeL; rw [if_neg hlong]
    obtain ⟨w1, hw1⟩ : ∃ w1, w0.alloc (.cells #[.int .i64 0] 142) = w1 := ⟨_, rfl⟩
    have hb1 : Below w0.heap.size w0 w1 := by rw [← hw1]; exact (Below.refl _ w0).alloc (Nat.le_refl _) _
    have hz1 : w1.heap.size = w.heap.size + 2 := by rw [← hw1]; simp; omega
    have hR1 : Boxed w1 (w.heap.size + 1) 142 (.int .i64 ((0 : Nat) : Int)) := by
      rw [← hw1, ← hz0]
      exact Boxed.new w0 _ _
    have HI := Lib.hid (item_all (2 * s.length + 1) s 0 0 (w.heap.size + 1) w1 (by omega) (by omega) (by omega) (by omega) hR1)
    rw [List.drop_zero] at HI
    generalize M.readT (2 * s.length + 1) s 0 = r at *
    obtain ⟨it, rest, er⟩ := r
    simp only at HI e
    have hrow1 := (hb1.block w.heap.size (by omega)).trans hrow0
    by_cases he : er = 0
    · subst he
      rw [if_neg (by simp)] at e
      rw [e]
      by_cases hrest : rest = []
      · rw [if_neg (by simpa using hrest)]
        go_enter Tryz.func62, Tryz.ntmps62
        go_wp2_with (refine (HI.out).mono ?_; rintro e w2 ⟨l, b, xs, a, cap, pl, rfl, hx, hfr, hb2, hpl⟩; have hz2 := hb2.size; have hb3 : Below w2.heap.size w2 (w2.alloc (.cells #[.bool l, .string ⟨b.toArray⟩, .slice a xs.length cap] 45)) := (Below.refl _ w2).alloc (Nat.le_refl _) _; have HROW := (hb3.block _ (by omega)).trans ((hb2.block _ (by omega)).trans hrow1); have hbit := Box.new w2 l b (.slice a xs.length cap) 45; obtain ⟨⟨_, q0⟩, ⟨_, q1⟩, ⟨_, q2⟩, g0, g1, g2⟩ := cells_three HROW; have hB : Below w.heap.size w (w2.alloc (.cells #[.bool l, .string ⟨b.toArray⟩, .slice a xs.length cap] 45)) := hb0.trans ((hb1.mono (by omega)).trans ((hb2.mono (by omega)).trans (hb3.mono (by omega)))); have hF := (hfr.from_ hb3).keep (T := fun c => w.heap.size < c ∧ c < (w2.alloc (.cells #[.bool l, .string ⟨b.toArray⟩, .slice a xs.length cap] 45)).heap.size) fun c ⟨h1, h2⟩ => ⟨⟨by omega, h2⟩, rfl⟩; have p0 := hbit.c0; have p1 := hbit.c1; have p2 := hbit.c2; obtain ⟨r1, r2, r3⟩ := hpl rfl; have hpe : pl = s.length := (by rw [hrest, List.drop_eq_nil_iff] at r1; omega); subst hpe)
        refine dec_postF w _ _ l b xs a cap 0 hB _ _ _ HROW hF _ ?_ ?_ ?_
        · rfl
        · rfl
        · exact fun Z e2 e3 => ⟨⟨l, b, xs, a, cap, rfl, hx, e2⟩, e3⟩
      · rw [if_pos hrest]
        go_enter Tryz.func62, Tryz.ntmps62
        go_wp2_with (refine (HI.out).mono ?_; rintro e w2 ⟨l, b, xs, a, cap, pl, rfl, hx, hfr, hb2, hpl⟩; have hz2 := hb2.size; have hb3 : Below w2.heap.size w2 (w2.alloc (.cells #[.bool l, .string ⟨b.toArray⟩, .slice a xs.length cap] 45)) := (Below.refl _ w2).alloc (Nat.le_refl _) _; have HROW := (hb3.block _ (by omega)).trans ((hb2.block _ (by omega)).trans hrow1); have hbit := Box.new w2 l b (.slice a xs.length cap) 45; obtain ⟨⟨_, q0⟩, ⟨_, q1⟩, ⟨_, q2⟩, g0, g1, g2⟩ := cells_three HROW; have hB : Below w.heap.size w (w2.alloc (.cells #[.bool l, .string ⟨b.toArray⟩, .slice a xs.length cap] 45)) := hb0.trans ((hb1.mono (by omega)).trans ((hb2.mono (by omega)).trans (hb3.mono (by omega)))); have hF := (hfr.from_ hb3).keep (T := fun c => w.heap.size < c ∧ c < (w2.alloc (.cells #[.bool l, .string ⟨b.toArray⟩, .slice a xs.length cap] 45)).heap.size) fun c ⟨h1, h2⟩ => ⟨⟨by omega, h2⟩, rfl⟩; have p0 := hbit.c0; have p1 := hbit.c1; have p2 := hbit.c2; obtain ⟨r1, r2, r3⟩ := hpl rfl; have hpe : ((pl : Nat) : Int) < (s.length : Nat) := (by have : pl ≠ s.length := (fun h => hrest (by rw [← r1, h, List.drop_length])); omega))
        refine dec_postF w _ _ false [] [] none 0 4 hB _ _ _ HROW (.nil_ (by decide)) _ ?_ ?_ ?_
        · rfl
        · rfl
        · exact fun Z e2 e3 => ⟨⟨false, [], [], none, 0, rfl, rfl, e2⟩, e3⟩
    · rw [if_pos he] at e
      rw [e]
      have he' : (((er : Nat) : Int) != 0) = true := by simp; omega
      go_enter Tryz.func62, Tryz.ntmps62
      go_wp2_with (refine (HI.out).mono ?_; rintro e w2 ⟨l, b, xs, a, cap, pl, rfl, hx, hfr, hb2, hpl⟩; have hz2 := hb2.size; have hb3 : Below w2.heap.size w2 (w2.alloc (.cells #[.bool l, .string ⟨b.toArray⟩, .slice a xs.length cap] 45)) := (Below.refl _ w2).alloc (Nat.le_refl _) _; have HROW := (hb3.block _ (by omega)).trans ((hb2.block _ (by omega)).trans hrow1); have hbit := Box.new w2 l b (.slice a xs.length cap) 45; obtain ⟨⟨_, q0⟩, ⟨_, q1⟩, ⟨_, q2⟩, g0, g1, g2⟩ := cells_three HROW; have hB : Below w.heap.size w (w2.alloc (.cells #[.bool l, .string ⟨b.toArray⟩, .slice a xs.length cap] 45)) := hb0.trans ((hb1.mono (by omega)).trans ((hb2.mono (by omega)).trans (hb3.mono (by omega)))); have hF := (hfr.from_ hb3).keep (T := fun c => w.heap.size < c ∧ c < (w2.alloc (.cells #[.bool l, .string ⟨b.toArray⟩, .slice a xs.length cap] 45)).heap.size) fun c ⟨h1, h2⟩ => ⟨⟨by omega, h2⟩, rfl⟩; have p0 := hbit.c0; have p1 := hbit.c1; have p2 := hbit.c2)
      refine dec_postF w _ _ false [] [] none 0 er hB _ _ _ HROW (.nil_ (by decide)) _ ?_ ?_ ?_
      · rfl
      · rfl
      · exact fun Z e2 e3 => ⟨⟨false, [], [], none, 0, rfl, rfl, e2⟩, e3⟩
end Go.Proofs.YtihiacbhdcahkaaGreatDoor
