/- slices.EqualFunc and rlp.Same. -/
import Derived.Test.YtebkmlbpngpmdaaDoorB3g
import Derived.Test.YtebkmlbpngpmdaaDoorC1g
namespace Go.Proofs.YtebkmlbpngpmdaaDoor
open Go Go.RowKit

set_option maxRecDepth 100000 in
set_option maxHeartbeats 4000000 in
/-- slices.EqualFunc of items, by what the function that it is handed says of each pair. -/
theorem equal_n (B n : Nat) (w : World) (xs ys : List M.It) (v v2 : Value) (hs : SizeOf.sizeOf xs ≤ n + 1) (hL : Lay w w.heap.size xs v) (hL2 : Lay w w.heap.size ys v2) (hcx : M.cntIs xs ≤ 4000) (hcy : M.cntIs ys ≤ 4000)
    (ih : ∀ W, Below w.heap.size w W → ∀ (l l2 : Bool) (d d2 : List UInt8) (us us' : List M.It) (u u' : Value), SizeOf.sizeOf us ≤ n → Lay W W.heap.size us u → Lay W W.heap.size us' u' → M.cntIs us ≤ 4000 → M.cntIs us' ≤ 4000 →
      Calls Tryd.prog 54 #[iv l d u, iv l2 d2 u', .pointer (some ⟨B, 0, none⟩)] W fun e w' => e = .returned (.bool (M.sameI (.mk l d us) (.mk l2 d2 us'))) ∧ Below W.heap.size W w') :
    Calls Tryd.prog 55 #[v, v2, .func (.func 54) #[] #[.pointer (some ⟨B, 0, none⟩)]] w fun e w' => e = .returned (.bool (xs.length == ys.length && M.sameIs xs ys)) ∧ Below w.heap.size w w' := by
  obtain ⟨a, cap, hv, _, _⟩ := hL.slice
  obtain ⟨a2, cap2, hv2, _, _⟩ := hL2.slice
  subst hv hv2
  have g1 := M.length_cnt xs
  have g2 := M.length_cnt ys
  have IH := Lib.hid ih
  clear ih
  by_cases hlen : xs.length = ys.length
  · have E : Hid ((xs.length == ys.length && M.sameIs xs ys) = M.sameIs xs ys) := by show _ = _; rw [hlen]; simp
    rw [E.out]
    have hne : ((xs.length : Int) != (ys.length : Int)) = false := by rw [bne_eq_false_iff_eq]; omega
    have HL := Lib.hid hlen
    clear hlen E
    go_enter Tryd.func55, Tryd.ntmps55
    go_wp2_with fail
    clear hne
    go_loopw [17] (fun i wr => ∃ k : Nat, k ≤ xs.length ∧ i = .int .i64 k ∧ M.sameIs (xs.take k) (ys.take k) = true ∧ Below w.heap.size w wr) (fun i _ => xs.length - (intOf i).toNat)
    case atStart => exact ⟨0, by omega, rfl, rfl, Below.refl _ _⟩
    case round =>
      obtain ⟨k, hk, rfl, hf, hW⟩ := hrel
      have hLr := hL.from_ hW
      have hLr2 := hL2.from_ hW
      have hsz := hW.size
      by_cases hlt : k < xs.length
      · obtain ⟨b, o, cp, l', d', us, u, hve, hbn, hxk, e0, e1, e2, hLu⟩ := hLr.at_ hlt
        obtain ⟨b', o', cp', l'', d'', us', u', hve', hbn', hxk', e0', e1', e2', hLu'⟩ := hLr2.at_ (show k < ys.length by have := HL.out; omega)
        obtain ⟨rfl, rfl⟩ : a = some ⟨b, o, none⟩ ∧ cap = cp := by cases hve; exact ⟨rfl, rfl⟩
        obtain ⟨rfl, rfl⟩ : a2 = some ⟨b', o', none⟩ ∧ cap2 = cp' := by cases hve'; exact ⟨rfl, rfl⟩
        clear hve hve'
        obtain ⟨a3, cap3, hu, _, _⟩ := hLu.slice
        obtain ⟨a4, cap4, hu', _, _⟩ := hLu'.slice
        subst hu hu'
        have hbw : b < wr.heap.size := by omega
        have hbw' : b' < wr.heap.size := by omega
        have hk2 : k < 4000 := by omega
        have hlt2 : k < ys.length := by have := HL.out; omega
        have hsx := size_get hxk
        rw [M.It.mk.sizeOf_spec] at hsx
        have g3 := M.cntI_part (List.mem_of_getElem? hxk)
        rw [M.cntI] at g3
        have g4 := M.cntI_part (List.mem_of_getElem? hxk')
        rw [M.cntI] at g4
        have IH1 : Hid (∀ W, Below wr.heap.size wr W → Calls Tryd.prog 54 #[iv l' d' (.slice a3 us.length cap3), iv l'' d'' (.slice a4 us'.length cap4), .pointer (some ⟨B, 0, none⟩)] W fun e w' => e = .returned (.bool (M.sameI (.mk l' d' us) (.mk l'' d'' us'))) ∧ Below W.heap.size W w') :=
          fun W hb => IH.out W (hW.trans (hb.mono hsz)) l' l'' d' d'' us us' _ _ (by omega) ((hLu.from_ (hb.mono hsz)).mono (by have := hb.size; omega)) ((hLu'.from_ (hb.mono hsz)).mono (by have := hb.size; omega)) (by omega) (by omega)
        have HN : Hid (M.sameIs (xs.take (k + 1)) (ys.take (k + 1)) = M.sameI (.mk l' d' us) (.mk l'' d'' us')) := by show _ = _; rw [M.sameIs_next hxk hxk', hf, Bool.true_and]
        have HF : Hid (M.sameI (.mk l' d' us) (.mk l'' d'' us') = false → M.sameIs xs ys = false) := M.sameIs_no hxk hxk'
        generalize M.sameI (.mk l' d' us) (.mk l'' d'' us') = q at *
        have hbn1 : Below wr.heap.size wr ((wr.alloc (.cells #[.bool l', .string ⟨d'.toArray⟩, .slice a3 us.length cap3] 30)).alloc (.cells #[.bool l'', .string ⟨d''.toArray⟩, .slice a4 us'.length cap4] 30)) := by (repeat (first | exact Below.refl _ _ | refine Below.drew ?_ | refine Below.alloc ?_ (by first | omega | (simp; omega) | simp) _ | refine Below.setCell ?_ (by first | omega | (simp; omega) | simp) _))
        clear hf hL hL2 hLr hLr2
        go_wp2_with fail
        refine (IH1.out _ ?_).mono ?_
        · first | exact hbn1 | (repeat (first | exact Below.refl _ _ | refine Below.drew ?_ | refine Below.alloc ?_ (by first | omega | (simp; omega) | simp) _ | refine Below.setCell ?_ (by first | omega | (simp; omega) | simp) _))
        rintro e w1 ⟨rfl, hb1⟩
        have hw1 : Below wr.heap.size wr w1 := hbn1.trans (hb1.mono (by simp; omega))
        cases q with
        | true =>
          go_wp2_with fail
          go_roundw
          case rel => exact ⟨k + 1, by omega, by simp, HN.out, hW.trans (hw1.mono hsz)⟩
          case measure => simp [intOf]; omega
        | false =>
          go_wp2_with fail
          go_ret
          exact ⟨by rw [HF.out trivial]; rfl, hW.trans (hw1.mono hsz)⟩
      · obtain rfl : k = xs.length := by omega
        have HF : Hid (M.sameIs xs ys = true) := by show _ = _; rw [← M.sameIs_all HL.out]; exact hf
        clear hf
        have hk2 : xs.length ≤ 4000 := by omega
        go_wp2_with fail
        go_ret
        exact ⟨by rw [HF.out]; rfl, hW⟩
  · have E : (xs.length == ys.length && M.sameIs xs ys) = false := by rw [beq_eq_false_iff_ne.2 hlen, Bool.false_and]
    rw [E]
    have hne : ((xs.length : Int) != (ys.length : Int)) = true := by rw [bne_iff_ne]; omega
    go_enter Tryd.func55, Tryd.ntmps55
    go_wp2_with fail
    go_ret
    exact ⟨rfl, Below.refl _ _⟩

set_option maxRecDepth 100000 in
set_option maxHeartbeats 4000000 in
theorem same1_n (B : Nat) (n : Nat) : ∀ (l l2 : Bool) (d d2 : List UInt8) (xs ys : List M.It) (v v2 : Value) (w : World), SizeOf.sizeOf xs ≤ n → Lay w w.heap.size xs v → Lay w w.heap.size ys v2 → M.cntIs xs ≤ 4000 → M.cntIs ys ≤ 4000 →
    B < w.heap.size → w.cell? ⟨B, 0, none⟩ = some (.func (.func 54) #[] #[.pointer (some ⟨B, 0, none⟩)]) →
    Calls Tryd.prog 54 #[iv l d v, iv l2 d2 v2, .pointer (some ⟨B, 0, none⟩)] w fun e w' => e = .returned (.bool (M.sameI (.mk l d xs) (.mk l2 d2 ys))) ∧ Below w.heap.size w w' := by
  induction n with
  | zero => intro l l2 d d2 xs ys v v2 w h; cases xs <;> simp at h
  | succ n ih =>
    intro l l2 d d2 xs ys v v2 w hs hL hL2 hcx hcy hB hBc
    obtain ⟨a, cap, hv, _, _⟩ := hL.slice
    obtain ⟨a2, cap2, hv2, _, _⟩ := hL2.slice
    subst hv hv2
    have hb0 : Below w.heap.size w ((w.alloc (.cells #[.bool l, .string ⟨d.toArray⟩, .slice a xs.length cap] 30)).alloc (.cells #[.bool l2, .string ⟨d2.toArray⟩, .slice a2 ys.length cap2] 30)) := by (repeat (first | exact Below.refl _ _ | refine Below.drew ?_ | refine Below.alloc ?_ (by first | omega | (simp; omega) | simp) _ | refine Below.setCell ?_ (by first | omega | (simp; omega) | simp) _))
    by_cases hl : l = l2
    · subst hl
      by_cases hd : d = d2
      · subst hd
        have E : M.sameI (.mk l d xs) (.mk l d ys) = (xs.length == ys.length && M.sameIs xs ys) := by rw [M.sameI]; simp
        have HE : Hid (∀ W, Below w.heap.size w W → Calls Tryd.prog 55 #[.slice a xs.length cap, .slice a2 ys.length cap2, .func (.func 54) #[] #[.pointer (some ⟨B, 0, none⟩)]] W fun e w' => e = .returned (.bool (M.sameI (.mk l d xs) (.mk l d ys))) ∧ Below W.heap.size W w') := fun W hb => by
          rw [E]
          refine equal_n B n W xs ys _ _ hs ((hL.from_ hb).mono hb.size) ((hL2.from_ hb).mono hb.size) hcx hcy ?_
          intro W2 hb2 l l2 d d2 us us' u u' h1 h2 h3 h4 h5
          have hb3 : Below w.heap.size w W2 := hb.trans (hb2.mono hb.size)
          exact ih l l2 d d2 us us' u u' W2 h1 h2 h3 h4 h5 (by have := hb3.size; omega) ((hb3.cell (p := ⟨B, 0, none⟩) hB).trans hBc)
        generalize M.sameI (.mk l d xs) (.mk l d ys) = q at *
        clear E ih hL hL2
        go_enter Tryd.func54, Tryd.ntmps54
        go_wp2_with fail
        refine (HE.out _ ?_).mono ?_
        · first | exact hb0 | (repeat (first | exact Below.refl _ _ | refine Below.drew ?_ | refine Below.alloc ?_ (by first | omega | (simp; omega) | simp) _ | refine Below.setCell ?_ (by first | omega | (simp; omega) | simp) _))
        rintro e w1 ⟨rfl, hb1⟩
        go_wp2_with fail
        go_ret
        exact ⟨rfl, hb0.trans (hb1.mono (by simp; omega))⟩
      · have e : M.sameI (.mk l d xs) (.mk l d2 ys) = false := by rw [M.sameI]; simp [hd]
        rw [e]
        go_enter Tryd.func54, Tryd.ntmps54
        go_wp2_with fail
        go_ret
        exact ⟨rfl, hb0⟩
    · have e : M.sameI (.mk l d xs) (.mk l2 d2 ys) = false := by rw [M.sameI]; simp [hl]
      rw [e]
      go_enter Tryd.func54, Tryd.ntmps54
      go_wp2_with fail
      go_ret
      exact ⟨rfl, hb0⟩

set_option maxRecDepth 100000 in
set_option maxHeartbeats 4000000 in
theorem same_any (l l2 : Bool) (d d2 : List UInt8) (xs ys : List M.It) (v v2 : Value) (w : World) (hL : Lay w w.heap.size xs v) (hL2 : Lay w w.heap.size ys v2) (hcx : M.cntIs xs ≤ 4000) (hcy : M.cntIs ys ≤ 4000) :
    Calls Tryd.prog 28 #[iv l d v, iv l2 d2 v2] w fun e w' => e = .returned (.bool (M.sameI (.mk l d xs) (.mk l2 d2 ys))) ∧ Below w.heap.size w w' := by
  obtain ⟨a, cap, hv, _, _⟩ := hL.slice
  obtain ⟨a2, cap2, hv2, _, _⟩ := hL2.slice
  subst hv hv2
  have hmf : ∀ (fn : Fn) (first cap : Array Value) (w : World), (Instr.makeFunc fn first cap).run Tryd.prog w = .ok (.func fn first cap) w := fun _ _ _ _ => rfl
  have hst : ∀ (W : World) (p : Addr) (F : Fn) (xa xb : Array Value), (W.cell? p).isSome = true → W.frozen? p = false → (store p (.func F xa xb)).run Tryd.prog W = .ok () (W.setCell p (.func F xa xb)) := by
    intro W p F xa xb h1 h2
    rw [run_store _ _ _ _ _ rfl]
    obtain ⟨x, hx⟩ := Option.isSome_iff_exists.1 h1
    rw [hx]
    simp [h2]
  obtain ⟨w0, hw0⟩ : ∃ w0, ((w.alloc (.cells #[.bool l, .string ⟨d.toArray⟩, .slice a xs.length cap] 30)).alloc (.cells #[.bool l2, .string ⟨d2.toArray⟩, .slice a2 ys.length cap2] 30)).alloc (.cells #[.func (.func 54) #[] #[.pointer (some ⟨w.heap.size + 1 + 1, 0, none⟩)]] 27) = w0 := ⟨_, rfl⟩
  have hb0 : Below w.heap.size w w0 := by rw [← hw0]; (repeat (first | exact Below.refl _ _ | refine Below.drew ?_ | refine Below.alloc ?_ (by first | omega | (simp; omega) | simp) _ | refine Below.setCell ?_ (by first | omega | (simp; omega) | simp) _))
  have hs0 : w0.heap.size = w.heap.size + 3 := by rw [← hw0]; simp
  have hl0 : w0.cell? ⟨w.heap.size + 1 + 1, 0, none⟩ = some (.func (.func 54) #[] #[.pointer (some ⟨w.heap.size + 1 + 1, 0, none⟩)]) := by rw [← hw0]; simp [go_sem]
  have HL := Lib.hid (same1_n (w.heap.size + 1 + 1) _ l l2 d d2 xs ys _ _ w0 (Nat.le_refl _) ((hL.from_ hb0).mono (by omega)) ((hL2.from_ hb0).mono (by omega)) hcx hcy (by omega) hl0)
  have HW := Lib.hid hw0
  clear hw0 hL hL2 hl0
  go_enter Tryd.func28, Tryd.ntmps28
  go_wp2_with fail
  rw [HW.out]
  refine HL.out.mono ?_
  rintro e w1 ⟨rfl, hb1⟩
  go_wp2_with fail
  go_ret
  exact ⟨rfl, hb0.trans (hb1.mono (by omega))⟩
end Go.Proofs.YtebkmlbpngpmdaaDoor
