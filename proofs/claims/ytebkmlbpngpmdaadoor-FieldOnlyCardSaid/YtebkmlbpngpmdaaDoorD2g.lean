/- rlp.fold: the function that calls itself, whatever it is handed. -/
import Derived.Test.YtebkmlbpngpmdaaDoorC1g
import Derived.Deep.RegionHeld3
import Derived.Deep.OwnRows
import Derived.Laws.AppendOwn
namespace Go.Proofs.YtebkmlbpngpmdaaDoor
open Go Go.RowKit

/-- What the three functions that fold is handed must do. R: what an item has come to; A: what items one behind the other have. -/
structure Folds (g1 g2 g3 : FuncId) (ok : M.It → Prop) (oks : List M.It → Prop) (R A : Nat → Value → World → (M.It ⊕ List M.It) → Prop) (zero : Value) : Prop where
  e1 : ∀ args w, (callFunc g1 args).run Tryd.prog w = .ok (.enter g1 args) w
  e2 : ∀ args w, (callFunc g2 args).run Tryd.prog w = .ok (.enter g2 args) w
  e3 : ∀ args w, (callFunc g3 args).run Tryd.prog w = .ok (.enter g3 args) w
  keepA : ∀ B v w W x, A B v w x → Below w.heap.size w W → A B v W x
  monoR : ∀ B C v w x, R B v w x → C ≤ B → R C v w x
  own : ∀ B v w x, A B v w x → ∀ k, v.ownBlock = some k → B ≤ k ∧ k < w.heap.size
  zero : ∀ B w, A B zero w (.inr [])
  f1 : ∀ d ys w, ok (.mk false d ys) → Calls Tryd.prog g1 #[.string ⟨d.toArray⟩] w fun e w' => (∃ v, e = .returned v ∧ R w.heap.size v w' (.inl (.mk false d ys))) ∧ Below w.heap.size w w'
  f2 : ∀ xs x B C v u w, oks (xs ++ [x]) → A B v w (.inr xs) → R C u w (.inl x) → B ≤ w.heap.size → Calls Tryd.prog g2 #[v, u] w fun e w' => (∃ v', e = .returned v' ∧ A B v' w' (.inr (xs ++ [x]))) ∧ w.grownBy w' v.ownBlock
  f3 : ∀ d xs B v w, ok (.mk true d xs) → A B v w (.inr xs) → Calls Tryd.prog g3 #[v] w fun e w' => (∃ v', e = .returned v' ∧ R w.heap.size v' w' (.inl (.mk true d xs))) ∧ Below w.heap.size w w'
  part : ∀ d xs k x, ok (.mk true d xs) → xs[k]? = some x → ok x ∧ oks (xs.take (k + 1))

/-- The four boxes that the function has captured. -/
structure Caps (w : World) (n : Nat) (F g1 g2 g3 : FuncId) (p q r s : Nat) : Prop where
  hp : p < n
  hq : q < n
  hr : r < n
  hs : s < n
  cp : w.cell? ⟨p, 0, none⟩ = some (.func (.func g1) #[] #[])
  cq : w.cell? ⟨q, 0, none⟩ = some (.func (.func g2) #[] #[])
  cr : w.cell? ⟨r, 0, none⟩ = some (.func (.func F) #[] #[.pointer (some ⟨p, 0, none⟩), .pointer (some ⟨q, 0, none⟩), .pointer (some ⟨r, 0, none⟩), .pointer (some ⟨s, 0, none⟩)])
  cs : w.cell? ⟨s, 0, none⟩ = some (.func (.func g3) #[] #[])
theorem Caps.from_ {w W : World} {n : Nat} {F g1 g2 g3 : FuncId} {p q r s : Nat} (h : Caps w n F g1 g2 g3 p q r s) (hb : Below n w W) : Caps W n F g1 g2 g3 p q r s :=
  ⟨h.hp, h.hq, h.hr, h.hs, (hb.cell (p := ⟨p, 0, none⟩) h.hp).trans h.cp, (hb.cell (p := ⟨q, 0, none⟩) h.hq).trans h.cq, (hb.cell (p := ⟨r, 0, none⟩) h.hr).trans h.cr, (hb.cell (p := ⟨s, 0, none⟩) h.hs).trans h.cs⟩
theorem Caps.mono {w : World} {n m : Nat} {F g1 g2 g3 : FuncId} {p q r s : Nat} (h : Caps w n F g1 g2 g3 p q r s) (hm : n ≤ m) : Caps w m F g1 g2 g3 p q r s :=
  ⟨by have := h.hp; omega, by have := h.hq; omega, by have := h.hr; omega, by have := h.hs; omega, h.cp, h.cq, h.cr, h.cs⟩

theorem cell_grown {w w' : World} {row : Option Nat} (hg : w.grownBy w' row) {b o : Nat} {v : Value} (h : w.cell? ⟨b, o, none⟩ = some v) (hne : row ≠ some b) : w'.cell? ⟨b, o, none⟩ = some v := hg.cell h (fun e => hne e.symm)

set_option maxRecDepth 100000 in
set_option maxHeartbeats 4000000 in
theorem fold_n {g1 g2 g3 : FuncId} {ok : M.It → Prop} {oks : List M.It → Prop} {R A : Nat → Value → World → (M.It ⊕ List M.It) → Prop} (hF : Folds g1 g2 g3 ok oks R A (.int .i64 0)) (p q r s : Nat) (n : Nat) :
    ∀ (l : Bool) (d : List UInt8) (xs : List M.It) (v : Value) (w : World), SizeOf.sizeOf xs ≤ n → Lay w w.heap.size xs v → M.cntIs xs ≤ 4000 → ok (.mk l d xs) → Caps w w.heap.size 87 g1 g2 g3 p q r s →
    Calls Tryd.prog 87 #[iv l d v, .pointer (some ⟨p, 0, none⟩), .pointer (some ⟨q, 0, none⟩), .pointer (some ⟨r, 0, none⟩), .pointer (some ⟨s, 0, none⟩)] w fun e w' => (∃ u, e = .returned u ∧ R w.heap.size u w' (.inl (.mk l d xs))) ∧ Below w.heap.size w w' := by
  induction n with
  | zero => intro l d xs v w h; cases xs <;> simp at h
  | succ n ih =>
    intro l d xs v w hs hL hcn hok hC
    have hlc := M.length_cnt xs
    obtain ⟨a, cap, hv, hcap, hmax⟩ := hL.slice
    subst hv
    have hb0 : Below w.heap.size w (w.alloc (.cells #[.bool l, .string ⟨d.toArray⟩, .slice a xs.length cap] 30)) := by (repeat (first | exact Below.refl _ _ | refine Below.drew ?_ | refine Below.alloc ?_ (by first | omega | (simp; omega) | simp) _ | refine Below.setCell ?_ (by first | omega | (simp; omega) | simp) _))
    have E1 := hF.e1
    have E2 := hF.e2
    have E3 := hF.e3
    have hC0 := hC.from_ hb0
    have hB := Box.new w l d (.slice a xs.length cap) 30
    obtain ⟨w0, hw0⟩ : ∃ w0, w.alloc (.cells #[.bool l, .string ⟨d.toArray⟩, .slice a xs.length cap] 30) = w0 := ⟨_, rfl⟩
    have hz : w0.heap.size = w.heap.size + 1 := by rw [← hw0]; simp
    cases l with
    | false =>
      have kp := hC0.cp
      have H1 := Lib.hid hF.f1
      clear hw0
      go_enter Tryd.func87, Tryd.ntmps87
      go_wp2_with fail
      refine (H1.out d xs _ hok).mono ?_
      rintro e w1 ⟨⟨u, rfl, hu⟩, hb1⟩
      go_wp2_with fail
      go_ret
      exact ⟨⟨u, rfl, hF.monoR _ _ _ _ _ hu (by simp)⟩, hb0.trans (hb1.mono (by simp))⟩
    | true =>
      rw [hw0] at hb0 hC0 hB
      have HW := Lib.hid hw0
      clear hw0
      go_enter Tryd.func87, Tryd.ntmps87
      go_wp2_with fail
      rw [HW.out]
      clear HW
      have H2 := Lib.hid hF.f2
      have H3 := Lib.hid hF.f3
      have HP := Lib.hid (fun k x h => hF.part d xs k x hok h)
      have hA0 := hF.zero w0.heap.size w0
      go_loopw [7, 20] (fun u7 i wr => ∃ k : Nat, k ≤ xs.length ∧ i = .int .i64 k ∧ A w0.heap.size u7 wr (.inr (xs.take k)) ∧ Below w0.heap.size w0 wr) (fun _ i _ => xs.length - (intOf i).toNat)
      case atStart => exact ⟨0, by omega, rfl, hA0, Below.refl _ _⟩
      case round =>
        obtain ⟨k, hk, rfl, hA, hW⟩ := hrel
        have hsz := hW.size
        have hLr := (hL.from_ hb0).from_ (hW.mono (by omega))
        have hCr := hC0.from_ (hW.mono (by omega))
        by_cases hlt : k < xs.length
        · obtain ⟨b, o, cp, l', d', ys, u, hve, hbn, hxk, e0, e1, e2, hLu⟩ := hLr.at_ hlt
          obtain ⟨rfl, rfl⟩ : a = some ⟨b, o, none⟩ ∧ cap = cp := by cases hve; exact ⟨rfl, rfl⟩
          clear hve
          obtain ⟨a2, cap2, hu, _, _⟩ := hLu.slice
          subst hu
          have hk2 : k < 4000 := by omega
          have hcx := M.cntI_part (List.mem_of_getElem? hxk)
          rw [M.cntI] at hcx
          have hsx := size_get hxk
          rw [M.It.mk.sizeOf_spec] at hsx
          obtain ⟨hok1, hok2⟩ := HP.out k _ hxk
          rw [M.take_next hxk] at hok2
          have IH : Hid (∀ W, Below wr.heap.size wr W → Calls Tryd.prog 87 #[iv l' d' (.slice a2 ys.length cap2), .pointer (some ⟨p, 0, none⟩), .pointer (some ⟨q, 0, none⟩), .pointer (some ⟨r, 0, none⟩), .pointer (some ⟨s, 0, none⟩)] W fun e w' => (∃ u, e = .returned u ∧ R W.heap.size u w' (.inl (.mk l' d' ys))) ∧ Below W.heap.size W w') :=
            fun W hb => ih l' d' ys _ W (by omega) ((hLu.from_ (hb.mono (by omega))).mono (by have := hb.size; omega)) (by omega) hok1 ((hCr.from_ (hb.mono (by omega))).mono (by have := hb.size; omega))
          clear ih
          go_wp2_with fail
          have hb1 : Below wr.heap.size wr (wr.alloc (.cells #[.bool l', .string ⟨d'.toArray⟩, .slice a2 ys.length cap2] 30)) := by (repeat (first | exact Below.refl _ _ | refine Below.drew ?_ | refine Below.alloc ?_ (by first | omega | (simp; omega) | simp) _ | refine Below.setCell ?_ (by first | omega | (simp; omega) | simp) _))
          have hB1 := Box.new wr l' d' (.slice a2 ys.length cap2) 30
          generalize hw1 : wr.alloc (.cells #[.bool l', .string ⟨d'.toArray⟩, .slice a2 ys.length cap2] 30) = w1 at *
          have hz1 : w1.heap.size = wr.heap.size + 1 := by rw [← hw1]; simp
          clear hw1
          have hb1d : Below wr.heap.size wr w1.drew := hb1.drew
          have mixed : Tryd.prog.follows .mixedOrders = true := by kernel_rfl
          have hT : ∀ W, Below w1.heap.size w1 W → W.cell? ⟨q, 0, none⟩ = some (.func (.func g2) #[] #[]) ∧ W.cell? ⟨r, 0, none⟩ = some (.func (.func 87) #[] #[.pointer (some ⟨p, 0, none⟩), .pointer (some ⟨q, 0, none⟩), .pointer (some ⟨r, 0, none⟩), .pointer (some ⟨s, 0, none⟩)]) ∧
              W.cell? ⟨wr.heap.size, 0, none⟩ = some (.bool l') ∧ W.cell? ⟨wr.heap.size, 1, none⟩ = some (.string ⟨d'.toArray⟩) ∧ W.cell? ⟨wr.heap.size, 2, none⟩ = some (.slice a2 ys.length cap2) := fun W hb => by
            have hc := (hCr.from_ (hb1.mono (by omega))).from_ (hb.mono (by omega))
            have hx := hB1.from_ hb (by omega)
            exact ⟨hc.cq, hc.cr, hx.c0, hx.c1, hx.c2⟩
          have hS1 := hT w1.drew (Below.drew (Below.refl _ _))
          have HT := Lib.hid hT
          have HS1 := Lib.hid hS1
          clear hT hS1 hb1
          have hown := hF.own _ _ _ _ hA
          have hq := hC.hq
          have hr := hC.hr
          have hz2 : ∀ W, Below wr.heap.size wr W → w0.heap.size ≤ W.heap.size := fun W h => Nat.le_trans hsz h.size
          have hAd := hF.keepA _ _ _ _ _ hA hb1d
          have KEPT : ∀ {W W' : World}, (W.cell? ⟨q, 0, none⟩ = some (.func (.func g2) #[] #[]) ∧ W.cell? ⟨r, 0, none⟩ = some (.func (.func 87) #[] #[.pointer (some ⟨p, 0, none⟩), .pointer (some ⟨q, 0, none⟩), .pointer (some ⟨r, 0, none⟩), .pointer (some ⟨s, 0, none⟩)]) ∧
              W.cell? ⟨wr.heap.size, 0, none⟩ = some (.bool l') ∧ W.cell? ⟨wr.heap.size, 1, none⟩ = some (.string ⟨d'.toArray⟩) ∧ W.cell? ⟨wr.heap.size, 2, none⟩ = some (.slice a2 ys.length cap2)) → W.grownBy W' u7.ownBlock → (W'.cell? ⟨q, 0, none⟩ = some (.func (.func g2) #[] #[]) ∧ W'.cell? ⟨r, 0, none⟩ = some (.func (.func 87) #[] #[.pointer (some ⟨p, 0, none⟩), .pointer (some ⟨q, 0, none⟩), .pointer (some ⟨r, 0, none⟩), .pointer (some ⟨s, 0, none⟩)]) ∧
              W'.cell? ⟨wr.heap.size, 0, none⟩ = some (.bool l') ∧ W'.cell? ⟨wr.heap.size, 1, none⟩ = some (.string ⟨d'.toArray⟩) ∧ W'.cell? ⟨wr.heap.size, 2, none⟩ = some (.slice a2 ys.length cap2)) := fun {W W'} ⟨h1, h2, h3, h4, h5⟩ hg =>
            ⟨cell_grown hg h1 (fun e => by have := hown _ e; omega), cell_grown hg h2 (fun e => by have := hown _ e; omega), cell_grown hg h3 (fun e => by have := hown _ e; omega), cell_grown hg h4 (fun e => by have := hown _ e; omega), cell_grown hg h5 (fun e => by have := hown _ e; omega)⟩
          have HO := Lib.hid hown
          clear hown hq hr
          go_region_held3 (fun W => W.cell? ⟨q, 0, none⟩ = some (.func (.func g2) #[] #[]) ∧ W.cell? ⟨r, 0, none⟩ = some (.func (.func 87) #[] #[.pointer (some ⟨p, 0, none⟩), .pointer (some ⟨q, 0, none⟩), .pointer (some ⟨r, 0, none⟩), .pointer (some ⟨s, 0, none⟩)]) ∧
              W.cell? ⟨wr.heap.size, 0, none⟩ = some (.bool l') ∧ W.cell? ⟨wr.heap.size, 1, none⟩ = some (.string ⟨d'.toArray⟩) ∧ W.cell? ⟨wr.heap.size, 2, none⟩ = some (.slice a2 ys.length cap2))
            (first | exact HS1.out | exact HS2.out | exact HS3.out | go_keep)
            (first | (go_at_call 87; refine (IH.out _ hb1d).mono ?_; rintro e w2 ⟨⟨x2, rfl, hR⟩, hb2⟩; have HS2 := Lib.hid (HT.out w2 ((Below.drew (Below.refl _ _)).trans hb2)); have hA2 := hF.keepA _ _ _ _ _ hAd hb2) | (refine (H2.out _ _ _ _ _ _ _ hok2 hA2 hR (hz2 _ (hb1d.trans (hb2.mono hb1d.size)))).mono ?_; rintro e w3 ⟨⟨x3, rfl, hA3⟩, hg⟩; have HS3 := Lib.hid (KEPT HS2.out hg)))
          have hw2 : Below w0.heap.size w0 w2 := hW.trans ((hb1d.trans (hb2.mono hb1d.size)).mono hsz)
          have hw3 : Below w0.heap.size w0 w3 := hw2.grown hg hw2.size (fun k e => (HO.out k e).1)
          rw [← M.take_next hxk] at hA3
          go_wp2_with fail
          go_roundw
          case rel => exact ⟨k + 1, by omega, by simp, hA3, hw3⟩
          case measure => simp [intOf]; omega
        · obtain rfl : k = xs.length := by omega
          have hk2 : xs.length ≤ 4000 := by omega
          have ks := hCr.cs
          rw [List.take_length] at hA
          clear ih
          go_wp2_with fail
          refine (H3.out d xs _ _ _ hok hA).mono ?_
          rintro e w1 ⟨⟨x, rfl, hx⟩, hb1⟩
          go_wp2_with fail
          go_ret
          exact ⟨⟨x, rfl, hF.monoR _ _ _ _ _ hx (by omega)⟩, hb0.trans ((hW.mono (by omega)).trans (hb1.mono (by omega)))⟩
end Go.Proofs.YtebkmlbpngpmdaaDoor
