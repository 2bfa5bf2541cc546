/- rlp.Encode. -/
import Derived.Test.YtcjhgnepehnjjaaDoorD7
import Derived.Test.YtcjhgnepehnjjaaDoorD10
namespace Go.Proofs.YtcjhgnepehnjjaaDoor
open Go Go.RowKit

theorem Ow.conv {B : Nat} {l : List UInt8} {v : Value} {w : World} (h : Ow B l v w) (hne : l ≠ []) : (convert 42 9 v).run Tryd.prog w = .ok (.string ⟨l.toArray⟩) w := by
  have h' := h
  rcases h.2 with ⟨_, h1⟩ | ⟨g, cap, cur, rfl, hB, hg, h1⟩
  · exact absurd (List.eq_nil_of_length_eq_zero h1) hne
  · refine run_convert_bytes_back w 42 9 5 ⟨g, 0, none⟩ cap l Tryd.underlying42 Tryd.underlying5 Tryd.underlying9 ?_
    intro j hj
    exact World.ownsRow.cells h' (g := g) rfl j _ (by simp [bc, hj])

set_option maxRecDepth 100000 in
set_option maxHeartbeats 4000000 in
theorem encode_any (l : Bool) (d : List UInt8) (xs : List M.It) (v : Value) (w : World) (hL : Lay w w.heap.size xs v) (hc : M.cntIs xs ≤ 4000) (hz : (M.bytesI (.mk l d xs)).length ≤ 4611686018427380000) :
    Calls Tryd.prog 8 #[iv l d v] w fun e w' => e = .returned (.tuple #[.string ⟨(M.encodeI (.mk l d xs)).1.toArray⟩, .int .i64 ((M.encodeI (.mk l d xs)).2 : Nat)]) ∧ Below w.heap.size w w' := by
  obtain ⟨a, cap, hv, _, _⟩ := hL.slice
  subst hv
  have hb0 : Below w.heap.size w (w.alloc (.cells #[.bool l, .string ⟨d.toArray⟩, .slice a xs.length cap] 24)) := by (repeat (first | exact Below.refl _ _ | refine Below.drew ?_ | refine Below.alloc ?_ (by first | omega | (simp; omega) | simp) _ | refine Below.setCell ?_ (by first | omega | (simp; omega) | simp) _))
  have hB := Box.new w l d (.slice a xs.length cap) 24
  have hf : Hid (∀ W, Below w.heap.size w W → Calls Tryd.prog 15 #[iv l d (.slice a xs.length cap)] W fun e w' => e = .returned (.int .i64 (M.checkI (.mk l d xs) : Nat)) ∧ Below W.heap.size W w') :=
    fun W hb => check_any l d xs _ W ((hL.from_ hb).mono hb.size) hc hz
  have hg : Hid (M.checkI (.mk l d xs) = 0 → ∀ W, Below w.heap.size w W → Calls Tryd.prog 16 #[iv l d (.slice a xs.length cap), .func (.func 17) #[] #[], .func (.func 19) #[] #[], .func (.func 20) #[] #[]] W fun e w' => (∃ u, e = .returned u ∧ Ow W.heap.size (M.bytesI (.mk l d xs)) u w') ∧ Below W.heap.size W w') :=
    fun hk W hb => foldb_any enc_folds l d xs _ W ((hL.from_ hb).mono hb.size) hc (M.checkI_ok.1 hk).2
  have hne : Hid (M.bytesI (.mk l d xs) ≠ []) := fun h => M.bytesI_ne (.mk l d xs) (by rw [h]; rfl)
  have hk : Hid (M.encodeI (.mk l d xs) = if M.checkI (.mk l d xs) = 0 then (M.bytesI (.mk l d xs), 0) else ([], M.checkI (.mk l d xs))) := rfl
  generalize M.encodeI (.mk l d xs) = q at *
  generalize M.checkI (.mk l d xs) = f at *
  generalize M.bytesI (.mk l d xs) = b at *
  clear hL
  by_cases hf0 : f = 0
  · subst hf0
    have e : q = (b, 0) := by rw [hk.out, if_pos rfl]
    subst e
    go_enter Tryd.func8, Tryd.ntmps8
    go_wp2_with fail
    refine (hf.out _ hb0).mono ?_
    rintro e w1 ⟨rfl, hb1⟩
    have hB1 := hB.from_ hb1 (by simp)
    have hc0 := hB1.c0
    have hc1 := hB1.c1
    have hc2 := hB1.c2
    have hb01 : Below w.heap.size w w1 := hb0.trans (hb1.mono (by simp))
    go_wp2_with fail
    refine (hg.out trivial _ hb01).mono ?_
    rintro e w2 ⟨⟨u, rfl, hu⟩, hb2⟩
    have hcv := hu.conv hne.out
    go_wp2_with fail
    go_ret2
    exact ⟨rfl, hb01.trans (hb2.mono hb01.size)⟩
  · have e : q = ([], f) := by rw [hk.out, if_neg hf0]
    subst e
    have hne : ((f : Int) != 0) = true := by rw [bne_iff_ne]; omega
    go_enter Tryd.func8, Tryd.ntmps8
    go_wp2_with fail
    refine (hf.out _ hb0).mono ?_
    rintro e w1 ⟨rfl, hb1⟩
    go_wp2_with fail
    go_ret2
    exact ⟨rfl, hb0.trans (hb1.mono (by simp))⟩
end Go.Proofs.YtcjhgnepehnjjaaDoor
