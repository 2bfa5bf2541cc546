/- rlp.fold, whatever it is handed. -/
import Derived.Test.YtebkmlbpngpmdaaDoorD2g
namespace Go.Proofs.YtebkmlbpngpmdaaDoor
open Go Go.RowKit

set_option maxRecDepth 100000 in
set_option maxHeartbeats 4000000 in
theorem fold_any {g1 g2 g3 : FuncId} {ok : M.It → Prop} {oks : List M.It → Prop} {R A : Nat → Value → World → (M.It ⊕ List M.It) → Prop} (hF : Folds g1 g2 g3 ok oks R A (.int .i64 0))
    (l : Bool) (d : List UInt8) (xs : List M.It) (v : Value) (w : World) (hL : Lay w w.heap.size xs v) (hc : M.cntIs xs ≤ 4000) (hok : ok (.mk l d xs)) :
    Calls Tryd.prog 69 #[iv l d v, .func (.func g1) #[] #[], .func (.func g2) #[] #[], .func (.func g3) #[] #[]] w fun e w' => (∃ u, e = .returned u ∧ R w.heap.size u w' (.inl (.mk l d xs))) ∧ Below w.heap.size w w' := by
  obtain ⟨a, cap, hv, _, _⟩ := hL.slice
  subst hv
  have hmf : ∀ (fn : Fn) (first cap : Array Value) (w : World), (Instr.makeFunc fn first cap).run Tryd.prog w = .ok (.func fn first cap) w := fun _ _ _ _ => rfl
  have hst : ∀ (W : World) (p : Addr) (F : Fn) (xa xb : Array Value), (W.cell? p).isSome = true → W.frozen? p = false → (store p (.func F xa xb)).run Tryd.prog W = .ok () (W.setCell p (.func F xa xb)) := by
    intro W p F xa xb h1 h2
    rw [run_store _ _ _ _ _ rfl]
    obtain ⟨x, hx⟩ := Option.isSome_iff_exists.1 h1
    rw [hx]
    simp [h2]
  go_enter Tryd.func69, Tryd.ntmps69
  go_wp2_with fail
  refine (fold_n hF (w.heap.size + 1) (w.heap.size + 1 + 1) (w.heap.size + 1 + 1 + 1 + 1) (w.heap.size + 1 + 1 + 1) _ l d xs _ _ (Nat.le_refl _) ?lay hc hok ?caps).mono ?_
  case lay =>
    refine (hL.from_ (W := _) ?_).mono ?_
    · (repeat (first | exact Below.refl _ _ | refine Below.drew ?_ | refine Below.alloc ?_ (by first | omega | (simp; omega) | simp) _ | refine Below.setCell ?_ (by first | omega | (simp; omega) | simp) _))
    · simp; omega
  case caps =>
    constructor <;> first | (simp; done) | (simp; omega) | (simp [go_sem]; done)
  rintro e w1 ⟨⟨u, rfl, hu⟩, hb1⟩
  go_wp2_with fail
  go_ret
  refine ⟨⟨u, rfl, hF.monoR _ _ _ _ _ hu (by simp; omega)⟩, Below.trans ?_ (hb1.mono (by simp; omega))⟩
  (repeat (first | exact Below.refl _ _ | refine Below.drew ?_ | refine Below.alloc ?_ (by first | omega | (simp; omega) | simp) _ | refine Below.setCell ?_ (by first | omega | (simp; omega) | simp) _))
end Go.Proofs.YtebkmlbpngpmdaaDoor
