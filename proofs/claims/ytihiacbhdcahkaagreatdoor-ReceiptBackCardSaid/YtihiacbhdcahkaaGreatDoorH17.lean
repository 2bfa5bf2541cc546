/- Bytes that a call owns: heads and what they lead. rlp.fold: the function that calls itself, whatever it is handed. rlp.fold: at bytes. rlp.fold, at bytes. -/
import Derived.Test.YtihiacbhdcahkaaGreatDoorH02
import Derived.Test.YtihiacbhdcahkaaGreatDoorH12
import Derived.Deep.RegionHeld3
import Derived.Deep.OwnRows
import Derived.Laws.AppendOwn
namespace Go.Proofs.YtihiacbhdcahkaaGreatDoor
open Go Go.RowKit Go.Lib

set_option maxRecDepth 100000 in
set_option maxHeartbeats 4000000 in
theorem headOf_any (k : Int) (c : UInt8) (l : List UInt8) (u : Value) (w : World) (hk : k = (c.toNat : Nat)) (hl : l.length ≤ 8) (hs : Sr l u w) :
    Calls Tryz.prog 131 #[.int .i64 k, u] w fun e w' => (∃ v, e = .returned v ∧ Ow w.heap.size (c :: l) v w') ∧ Below w.heap.size w w' := by
  have hw : IntKind.u8.wrap k = ((c.toNat : Nat) : Int) := wrap_u8 hk
  clear hk
  go_enter Tryz.func131, Tryz.ntmps131
  go_wp2_with (at_builtin; refine wpList_append_ow _ rfl _ _ rfl w.heap.size [c] l _ u rfl rfl (Ow.lit w c) (hs.from_ ((Below.refl _ _).alloc (Nat.le_refl _) _)) (by simp; omega) (by simp) ?_; intro v w1 ho1 hb1 _)
  go_ret
  exact ⟨⟨v, rfl, ho1⟩, ((Below.refl _ _).alloc (Nat.le_refl _) _).trans hb1⟩

set_option maxRecDepth 100000 in
set_option maxHeartbeats 4000000 in
theorem head_any (n p : Nat) (w : World) (hn : n < 4611686018427387904) (hp : p ≤ 192) :
    Calls Tryz.prog 88 #[.int .i64 (n : Nat), .int .i64 (p : Nat)] w fun e w' => (∃ v, e = .returned v ∧ Ow w.heap.size (M.hdL n p) v w') ∧ Below w.heap.size w w' := by
  by_cases h56 : n < 56
  · obtain ⟨c, hc⟩ : ∃ c : UInt8, c = UInt8.ofNat (p + n) := ⟨_, rfl⟩
    have e : M.hdL n p = [c] := by unfold M.hdL; rw [if_pos h56, hc]
    have hcn : c.toNat = p + n := by rw [hc]; exact ofNat_at (by omega)
    rw [e]
    clear hc e
    go_enter Tryz.func88, Tryz.ntmps88
    go_wp2_with fail
    refine (headOf_any _ c [] _ w (by omega) (by simp) (.inl ⟨rfl, rfl⟩)).mono ?_
    rintro e w1 ⟨⟨v, rfl, ho⟩, hb⟩
    go_wp2_with fail
    go_ret
    exact ⟨⟨v, rfl, ho⟩, hb⟩
  · have e : M.hdL n p = UInt8.ofNat (p + 55 + (M.ben n).length) :: M.ben n := by unfold M.hdL; rw [if_neg h56]
    have hbl := M.ben_le (n := n) (by omega)
    have hbe : Hid (∀ w, Calls Tryz.prog 43 #[.int .u64 (n : Nat)] w fun e w' => e = .returned (.string ⟨(M.ben n).toArray⟩) ∧ Below w.heap.size w w') := fun w => nbe_any n w (by omega)
    rw [e]
    generalize M.ben n = bn at *
    obtain ⟨c, hc⟩ : ∃ c : UInt8, c = UInt8.ofNat (p + 55 + bn.length) := ⟨_, rfl⟩
    rw [← hc]
    have hcn : c.toNat = p + 55 + bn.length := by rw [hc]; exact ofNat_at (by omega)
    clear e hc
    go_enter Tryz.func88, Tryz.ntmps88
    go_wp2_with fail
    refine (hbe.out _).mono ?_
    rintro e w1 ⟨rfl, hb1⟩
    go_wp2_with (refine wpList_seal _ rfl _ _ 5 _ rfl ⟨bn.toArray⟩ rfl Tryz.underlying9 Tryz.underlying76 Tryz.underlying5 (by simp [ByteArray.size]; unfold maxLen; omega) ?_; intro cap cur w2 hSeal)
    have h1 := hb1.size
    have h2 := hSeal.low.size
    have hb2 : Below w.heap.size w w2 := hb1.trans (hSeal.low.mono h1)
    refine (headOf_any _ c bn _ w2 (by omega) hbl hSeal.sr).mono ?_
    rintro e w3 ⟨⟨v, rfl, ho⟩, hb⟩
    go_wp2_with fail
    go_ret
    exact ⟨⟨v, rfl, ho.mono (by omega)⟩, hb2.trans (hb.mono (by omega))⟩

/-- What is ahead of bytes. -/
def hdB (d : List UInt8) : List UInt8 := if d.length = 1 ∧ (d.headD 0).toNat < 128 then [] else M.hdL d.length 128
theorem bytes_hdB (d : List UInt8) (xs : List M.It) : M.bytesI (.mk false d xs) = hdB d ++ d := by
  rw [M.bytesI]
  unfold hdB
  by_cases h : d.length = 1 ∧ (d.headD 0).toNat < 128
  · rw [if_pos h, if_pos h, List.nil_append]
  · rw [if_neg h, if_neg h]
set_option maxRecDepth 100000 in
set_option maxHeartbeats 4000000 in
theorem headOfBytes_any (d : List UInt8) (w : World) (hn : d.length < 4611686018427387904) :
    Calls Tryz.prog 85 #[.string ⟨d.toArray⟩] w fun e w' => (∃ v, e = .returned v ∧ Ow w.heap.size (hdB d) v w') ∧ Below w.heap.size w w' := by
  by_cases h1 : d.length = 1
  · obtain ⟨c, rfl⟩ : ∃ c, d = [c] := by match d, h1 with | [c], _ => exact ⟨c, rfl⟩
    have hx : (⟨#[c]⟩ : ByteArray)[0]'(Nat.one_pos) = c := rfl
    by_cases hc : c.toNat < 128
    · have e : hdB [c] = [] := by unfold hdB; simp [hc]
      rw [e]
      go_enter Tryz.func85, Tryz.ntmps85
      go_wp2_with fail
      go_ret
      exact ⟨⟨_, rfl, Ow.nil _ _⟩, Below.refl _ _⟩
    · have e : hdB [c] = M.hdL 1 128 := by unfold hdB; simp [hc]
      rw [e]
      have hh := Lib.hid (head_any 1 128 w (by omega) (by omega))
      generalize M.hdL 1 128 = hd at *
      clear e
      go_enter Tryz.func85, Tryz.ntmps85
      go_wp2_with fail
      refine hh.out.mono ?_
      rintro e w1 ⟨⟨v, rfl, ho⟩, hb⟩
      go_wp2_with fail
      go_ret
      exact ⟨⟨v, rfl, ho⟩, hb⟩
  · have e : hdB d = M.hdL d.length 128 := by unfold hdB; simp [h1]
    rw [e]
    have hh := Lib.hid (head_any d.length 128 w (by omega) (by omega))
    generalize M.hdL d.length 128 = hd at *
    clear e
    go_enter Tryz.func85, Tryz.ntmps85
    go_wp2_with fail
    refine hh.out.mono ?_
    rintro e w1 ⟨⟨v, rfl, ho⟩, hb⟩
    go_wp2_with fail
    go_ret
    exact ⟨⟨v, rfl, ho⟩, hb⟩
end Go.Proofs.YtihiacbhdcahkaaGreatDoor
namespace Go.Proofs.YtihiacbhdcahkaaGreatDoor
open Go Go.RowKit

/-- What the three functions that fold is handed must do. R: what an item has come to; A: what items one behind the other have. -/
structure Folds (g1 g2 g3 : FuncId) (ok : M.It → Prop) (oks : List M.It → Prop) (R A : Nat → Value → World → (M.It ⊕ List M.It) → Prop) (zero : Value) : Prop where
  e1 : ∀ args w, (callFunc g1 args).run Tryz.prog w = .ok (.enter g1 args) w
  e2 : ∀ args w, (callFunc g2 args).run Tryz.prog w = .ok (.enter g2 args) w
  e3 : ∀ args w, (callFunc g3 args).run Tryz.prog w = .ok (.enter g3 args) w
  keepA : ∀ B v w W x, A B v w x → Below w.heap.size w W → A B v W x
  monoR : ∀ B C v w x, R B v w x → C ≤ B → R C v w x
  own : ∀ B v w x, A B v w x → ∀ k, v.ownBlock = some k → B ≤ k ∧ k < w.heap.size
  zero : ∀ B w, A B zero w (.inr [])
  f1 : ∀ d ys w, ok (.mk false d ys) → Calls Tryz.prog g1 #[.string ⟨d.toArray⟩] w fun e w' => (∃ v, e = .returned v ∧ R w.heap.size v w' (.inl (.mk false d ys))) ∧ Below w.heap.size w w'
  f2 : ∀ xs x B C v u w, oks (xs ++ [x]) → A B v w (.inr xs) → R C u w (.inl x) → B ≤ w.heap.size → Calls Tryz.prog g2 #[v, u] w fun e w' => (∃ v', e = .returned v' ∧ A B v' w' (.inr (xs ++ [x]))) ∧ w.grownBy w' v.ownBlock
  f3 : ∀ d xs B v w, ok (.mk true d xs) → A B v w (.inr xs) → Calls Tryz.prog g3 #[v] w fun e w' => (∃ v', e = .returned v' ∧ R w.heap.size v' w' (.inl (.mk true d xs))) ∧ Below w.heap.size w w'
  part : ∀ d xs k x, ok (.mk true d xs) → xs[k]? = some x → ok x ∧ oks (xs.take (k + 1))

/-- The four boxes that the function has captured. -/
structure Caps (w : World) (n : Nat) (F g1 g2 g3 : FuncId) (p q r s : Nat) : Prop where
  hp : p < n
  hq : q < n
  hr : r < n
  hs : s < n
  cp : w.cell? ⟨p, 0, none⟩ = some (.func (.func g1) #[] #[])
  cq : w.cell? ⟨q, 0, none⟩ = some (.func (.func g2) #[] #[])
  cr : w.cell? ⟨r, 0, none⟩ = some (.func (.func F) #[] #[.pointer (some ⟨p, 0, none⟩), .pointer (some ⟨q, 0, none⟩), .pointer (some ⟨r, 0, none⟩), .pointer (some ⟨s, 0, none⟩)])
  cs : w.cell? ⟨s, 0, none⟩ = some (.func (.func g3) #[] #[])
theorem Caps.from_ {w W : World} {n : Nat} {F g1 g2 g3 : FuncId} {p q r s : Nat} (h : Caps w n F g1 g2 g3 p q r s) (hb : Below n w W) : Caps W n F g1 g2 g3 p q r s :=
  ⟨h.hp, h.hq, h.hr, h.hs, (hb.cell (p := ⟨p, 0, none⟩) h.hp).trans h.cp, (hb.cell (p := ⟨q, 0, none⟩) h.hq).trans h.cq, (hb.cell (p := ⟨r, 0, none⟩) h.hr).trans h.cr, (hb.cell (p := ⟨s, 0, none⟩) h.hs).trans h.cs⟩
theorem Caps.mono {w : World} {n m : Nat} {F g1 g2 g3 : FuncId} {p q r s : Nat} (h : Caps w n F g1 g2 g3 p q r s) (hm : n ≤ m) : Caps w m F g1 g2 g3 p q r s :=
  ⟨by have := h.hp; omega, by have := h.hq; omega, by have := h.hr; omega, by have := h.hs; omega, h.cp, h.cq, h.cr, h.cs⟩

theorem cell_grown {w w' : World} {row : Option Nat} (hg : w.grownBy w' row) {b o : Nat} {v : Value} (h : w.cell? ⟨b, o, none⟩ = some v) (hne : row ≠ some b) : w'.cell? ⟨b, o, none⟩ = some v := hg.cell h (fun e => hne e.symm)

set_option maxRecDepth 100000 in
set_option maxHeartbeats 4000000 in
theorem fold_n {g1 g2 g3 : FuncId} {ok : M.It → Prop} {oks : List M.It → Prop} {R A : Nat → Value → World → (M.It ⊕ List M.It) → Prop} (hF : Folds g1 g2 g3 ok oks R A (.int .i64 0)) (p q r s : Nat) (n : Nat) :
    ∀ (l : Bool) (d : List UInt8) (xs : List M.It) (v : Value) (w : World), SizeOf.sizeOf xs ≤ n → Lay w w.heap.size xs v → M.cntIs xs ≤ 4000 → ok (.mk l d xs) → Caps w w.heap.size 264 g1 g2 g3 p q r s →
    Calls Tryz.prog 264 #[iv l d v, .pointer (some ⟨p, 0, none⟩), .pointer (some ⟨q, 0, none⟩), .pointer (some ⟨r, 0, none⟩), .pointer (some ⟨s, 0, none⟩)] w fun e w' => (∃ u, e = .returned u ∧ R w.heap.size u w' (.inl (.mk l d xs))) ∧ Below w.heap.size w w' := by
  induction n with
  | zero => intro l d xs v w h; cases xs <;> simp at h
  | succ n ih =>
    intro l d xs v w hs hL hcn hok hC
    have hlc := M.length_cnt xs
    obtain ⟨a, cap, hv, hcap, hmax⟩ := hL.slice
    subst hv
    have hb0 : Below w.heap.size w (w.alloc (.cells #[.bool l, .string ⟨d.toArray⟩, .slice a xs.length cap] 45)) := by (repeat (first | exact Below.refl _ _ | refine Below.drew ?_ | refine Below.alloc ?_ (by first | omega | (simp; omega) | simp) _ | refine Below.setCell ?_ (by first | omega | (simp; omega) | simp) _))
    have E1 := hF.e1
    have E2 := hF.e2
    have E3 := hF.e3
    have hC0 := hC.from_ hb0
    have hB := Box.new w l d (.slice a xs.length cap) 45
    obtain ⟨w0, hw0⟩ : ∃ w0, w.alloc (.cells #[.bool l, .string ⟨d.toArray⟩, .slice a xs.length cap] 45) = w0 := ⟨_, rfl⟩
    have hz : w0.heap.size = w.heap.size + 1 := by rw [← hw0]; simp
    cases l with
    | false =>
      have kp := hC0.cp
      have H1 := Lib.hid hF.f1
      clear hw0
      go_enter Tryz.func264, Tryz.ntmps264
      go_wp2_with fail
      refine (H1.out d xs _ hok).mono ?_
      rintro e w1 ⟨⟨u, rfl, hu⟩, hb1⟩
      go_wp2_with fail
      go_ret
      exact ⟨⟨u, rfl, hF.monoR _ _ _ _ _ hu (by simp)⟩, hb0.trans (hb1.mono (by simp))⟩
    | true =>
      rw [hw0] at hb0 hC0 hB
      have HW := Lib.hid hw0
      clear hw0
      go_enter Tryz.func264, Tryz.ntmps264
      go_wp2_with fail
      rw [HW.out]
      clear HW
      have H2 := Lib.hid hF.f2
      have H3 := Lib.hid hF.f3
      have HP := Lib.hid (fun k x h => hF.part d xs k x hok h)
      have hA0 := hF.zero w0.heap.size w0
      go_loopw [7, 20] (fun u7 i wr => ∃ k : Nat, k ≤ xs.length ∧ i = .int .i64 k ∧ A w0.heap.size u7 wr (.inr (xs.take k)) ∧ Below w0.heap.size w0 wr) (fun _ i _ => xs.length - (intOf i).toNat)
      case atStart => exact ⟨0, by omega, rfl, hA0, Below.refl _ _⟩
      case round =>
        obtain ⟨k, hk, rfl, hA, hW⟩ := hrel
        have hsz := hW.size
        have hLr := (hL.from_ hb0).from_ (hW.mono (by omega))
        have hCr := hC0.from_ (hW.mono (by omega))
        by_cases hlt : k < xs.length
        · obtain ⟨b, o, cp, l', d', ys, u, hve, hbn, hxk, e0, e1, e2, hLu⟩ := hLr.at_ hlt
          obtain ⟨rfl, rfl⟩ : a = some ⟨b, o, none⟩ ∧ cap = cp := by cases hve; exact ⟨rfl, rfl⟩
          clear hve
          obtain ⟨a2, cap2, hu, _, _⟩ := hLu.slice
          subst hu
          have hk2 : k < 4000 := by omega
          have hcx := M.cntI_part (List.mem_of_getElem? hxk)
          rw [M.cntI] at hcx
          have hsx := size_get hxk
          rw [M.It.mk.sizeOf_spec] at hsx
          obtain ⟨hok1, hok2⟩ := HP.out k _ hxk
          rw [M.take_next hxk] at hok2
          have IH : Hid (∀ W, Below wr.heap.size wr W → Calls Tryz.prog 264 #[iv l' d' (.slice a2 ys.length cap2), .pointer (some ⟨p, 0, none⟩), .pointer (some ⟨q, 0, none⟩), .pointer (some ⟨r, 0, none⟩), .pointer (some ⟨s, 0, none⟩)] W fun e w' => (∃ u, e = .returned u ∧ R W.heap.size u w' (.inl (.mk l' d' ys))) ∧ Below W.heap.size W w') :=
            fun W hb => ih l' d' ys _ W (by omega) ((hLu.from_ (hb.mono (by omega))).mono (by have := hb.size; omega)) (by omega) hok1 ((hCr.from_ (hb.mono (by omega))).mono (by have := hb.size; omega))
          clear ih
          go_wp2_with fail
          have hb1 : Below wr.heap.size wr (wr.alloc (.cells #[.bool l', .string ⟨d'.toArray⟩, .slice a2 ys.length cap2] 45)) := by (repeat (first | exact Below.refl _ _ | refine Below.drew ?_ | refine Below.alloc ?_ (by first | omega | (simp; omega) | simp) _ | refine Below.setCell ?_ (by first | omega | (simp; omega) | simp) _))
          have hB1 := Box.new wr l' d' (.slice a2 ys.length cap2) 45
          generalize hw1 : wr.alloc (.cells #[.bool l', .string ⟨d'.toArray⟩, .slice a2 ys.length cap2] 45) = w1 at *
          have hz1 : w1.heap.size = wr.heap.size + 1 := by rw [← hw1]; simp
          clear hw1
          have hb1d : Below wr.heap.size wr w1.drew := hb1.drew
          have mixed : Tryz.prog.follows .mixedOrders = true := by kernel_rfl
          have hT : ∀ W, Below w1.heap.size w1 W → W.cell? ⟨q, 0, none⟩ = some (.func (.func g2) #[] #[]) ∧ W.cell? ⟨r, 0, none⟩ = some (.func (.func 264) #[] #[.pointer (some ⟨p, 0, none⟩), .pointer (some ⟨q, 0, none⟩), .pointer (some ⟨r, 0, none⟩), .pointer (some ⟨s, 0, none⟩)]) ∧
              W.cell? ⟨wr.heap.size, 0, none⟩ = some (.bool l') ∧ W.cell? ⟨wr.heap.size, 1, none⟩ = some (.string ⟨d'.toArray⟩) ∧ W.cell? ⟨wr.heap.size, 2, none⟩ = some (.slice a2 ys.length cap2) := fun W hb => by
            have hc := (hCr.from_ (hb1.mono (by omega))).from_ (hb.mono (by omega))
            have hx := hB1.from_ hb (by omega)
            exact ⟨hc.cq, hc.cr, hx.c0, hx.c1, hx.c2⟩
          have hS1 := hT w1.drew (Below.drew (Below.refl _ _))
          have HT := Lib.hid hT
          have HS1 := Lib.hid hS1
          clear hT hS1 hb1
          have hown := hF.own _ _ _ _ hA
          have hq := hC.hq
          have hr := hC.hr
          have hz2 : ∀ W, Below wr.heap.size wr W → w0.heap.size ≤ W.heap.size := fun W h => Nat.le_trans hsz h.size
          have hAd := hF.keepA _ _ _ _ _ hA hb1d
          have KEPT : ∀ {W W' : World}, (W.cell? ⟨q, 0, none⟩ = some (.func (.func g2) #[] #[]) ∧ W.cell? ⟨r, 0, none⟩ = some (.func (.func 264) #[] #[.pointer (some ⟨p, 0, none⟩), .pointer (some ⟨q, 0, none⟩), .pointer (some ⟨r, 0, none⟩), .pointer (some ⟨s, 0, none⟩)]) ∧
              W.cell? ⟨wr.heap.size, 0, none⟩ = some (.bool l') ∧ W.cell? ⟨wr.heap.size, 1, none⟩ = some (.string ⟨d'.toArray⟩) ∧ W.cell? ⟨wr.heap.size, 2, none⟩ = some (.slice a2 ys.length cap2)) → W.grownBy W' u7.ownBlock → (W'.cell? ⟨q, 0, none⟩ = some (.func (.func g2) #[] #[]) ∧ W'.cell? ⟨r, 0, none⟩ = some (.func (.func 264) #[] #[.pointer (some ⟨p, 0, none⟩), .pointer (some ⟨q, 0, none⟩), .pointer (some ⟨r, 0, none⟩), .pointer (some ⟨s, 0, none⟩)]) ∧
              W'.cell? ⟨wr.heap.size, 0, none⟩ = some (.bool l') ∧ W'.cell? ⟨wr.heap.size, 1, none⟩ = some (.string ⟨d'.toArray⟩) ∧ W'.cell? ⟨wr.heap.size, 2, none⟩ = some (.slice a2 ys.length cap2)) := fun {W W'} ⟨h1, h2, h3, h4, h5⟩ hg =>
            ⟨cell_grown hg h1 (fun e => by have := hown _ e; omega), cell_grown hg h2 (fun e => by have := hown _ e; omega), cell_grown hg h3 (fun e => by have := hown _ e; omega), cell_grown hg h4 (fun e => by have := hown _ e; omega), cell_grown hg h5 (fun e => by have := hown _ e; omega)⟩
          have HO := Lib.hid hown
          clear hown hq hr
          go_region_held3 (fun W => W.cell? ⟨q, 0, none⟩ = some (.func (.func g2) #[] #[]) ∧ W.cell? ⟨r, 0, none⟩ = some (.func (.func 264) #[] #[.pointer (some ⟨p, 0, none⟩), .pointer (some ⟨q, 0, none⟩), .pointer (some ⟨r, 0, none⟩), .pointer (some ⟨s, 0, none⟩)]) ∧
              W.cell? ⟨wr.heap.size, 0, none⟩ = some (.bool l') ∧ W.cell? ⟨wr.heap.size, 1, none⟩ = some (.string ⟨d'.toArray⟩) ∧ W.cell? ⟨wr.heap.size, 2, none⟩ = some (.slice a2 ys.length cap2))
            (first | exact HS1.out | exact HS2.out | exact HS3.out | go_keep)
            (first | (go_at_call 264; refine (IH.out _ hb1d).mono ?_; rintro e w2 ⟨⟨x2, rfl, hR⟩, hb2⟩; have HS2 := Lib.hid (HT.out w2 ((Below.drew (Below.refl _ _)).trans hb2)); have hA2 := hF.keepA _ _ _ _ _ hAd hb2) | (refine (H2.out _ _ _ _ _ _ _ hok2 hA2 hR (hz2 _ (hb1d.trans (hb2.mono hb1d.size)))).mono ?_; rintro e w3 ⟨⟨x3, rfl, hA3⟩, hg⟩; have HS3 := Lib.hid (KEPT HS2.out hg)))
          have hw2 : Below w0.heap.size w0 w2 := hW.trans ((hb1d.trans (hb2.mono hb1d.size)).mono hsz)
          have hw3 : Below w0.heap.size w0 w3 := hw2.grown hg hw2.size (fun k e => (HO.out k e).1)
          rw [← M.take_next hxk] at hA3
          go_wp2_with fail
          go_roundw
          case rel => exact ⟨k + 1, by omega, by simp, hA3, hw3⟩
          case measure => simp [intOf]; omega
        · obtain rfl : k = xs.length := by omega
          have hk2 : xs.length ≤ 4000 := by omega
          have ks := hCr.cs
          rw [List.take_length] at hA
          clear ih
          go_wp2_with fail
          refine (H3.out d xs _ _ _ hok hA).mono ?_
          rintro e w1 ⟨⟨x, rfl, hx⟩, hb1⟩
          go_wp2_with fail
          go_ret
          exact ⟨⟨x, rfl, hF.monoR _ _ _ _ _ hx (by omega)⟩, hb0.trans ((hW.mono (by omega)).trans (hb1.mono (by omega)))⟩
end Go.Proofs.YtihiacbhdcahkaaGreatDoor
namespace Go.Proofs.YtihiacbhdcahkaaGreatDoor
open Go Go.RowKit

set_option maxRecDepth 100000 in
set_option maxHeartbeats 4000000 in
theorem foldb_n {g1 g2 g3 : FuncId} {ok : M.It → Prop} {oks : List M.It → Prop} {R A : Nat → Value → World → (M.It ⊕ List M.It) → Prop} (hF : Folds g1 g2 g3 ok oks R A (.slice none 0 0)) (p q r s : Nat) (n : Nat) :
    ∀ (l : Bool) (d : List UInt8) (xs : List M.It) (v : Value) (w : World), SizeOf.sizeOf xs ≤ n → Lay w w.heap.size xs v → M.cntIs xs ≤ 4000 → ok (.mk l d xs) → Caps w w.heap.size 130 g1 g2 g3 p q r s →
    Calls Tryz.prog 130 #[iv l d v, .pointer (some ⟨p, 0, none⟩), .pointer (some ⟨q, 0, none⟩), .pointer (some ⟨r, 0, none⟩), .pointer (some ⟨s, 0, none⟩)] w fun e w' => (∃ u, e = .returned u ∧ R w.heap.size u w' (.inl (.mk l d xs))) ∧ Below w.heap.size w w' := by
  induction n with
  | zero => intro l d xs v w h; cases xs <;> simp at h
  | succ n ih =>
    intro l d xs v w hs hL hcn hok hC
    have hlc := M.length_cnt xs
    obtain ⟨a, cap, hv, hcap, hmax⟩ := hL.slice
    subst hv
    have hb0 : Below w.heap.size w (w.alloc (.cells #[.bool l, .string ⟨d.toArray⟩, .slice a xs.length cap] 45)) := by (repeat (first | exact Below.refl _ _ | refine Below.drew ?_ | refine Below.alloc ?_ (by first | omega | (simp; omega) | simp) _ | refine Below.setCell ?_ (by first | omega | (simp; omega) | simp) _))
    have E1 := hF.e1
    have E2 := hF.e2
    have E3 := hF.e3
    have hC0 := hC.from_ hb0
    have hB := Box.new w l d (.slice a xs.length cap) 45
    obtain ⟨w0, hw0⟩ : ∃ w0, w.alloc (.cells #[.bool l, .string ⟨d.toArray⟩, .slice a xs.length cap] 45) = w0 := ⟨_, rfl⟩
    have hz : w0.heap.size = w.heap.size + 1 := by rw [← hw0]; simp
    cases l with
    | false =>
      have kp := hC0.cp
      have H1 := Lib.hid hF.f1
      clear hw0
      go_enter Tryz.func130, Tryz.ntmps130
      go_wp2_with fail
      refine (H1.out d xs _ hok).mono ?_
      rintro e w1 ⟨⟨u, rfl, hu⟩, hb1⟩
      go_wp2_with fail
      go_ret
      exact ⟨⟨u, rfl, hF.monoR _ _ _ _ _ hu (by simp)⟩, hb0.trans (hb1.mono (by simp))⟩
    | true =>
      rw [hw0] at hb0 hC0 hB
      have HW := Lib.hid hw0
      clear hw0
      go_enter Tryz.func130, Tryz.ntmps130
      go_wp2_with fail
      rw [HW.out]
      clear HW
      have H2 := Lib.hid hF.f2
      have H3 := Lib.hid hF.f3
      have HP := Lib.hid (fun k x h => hF.part d xs k x hok h)
      have hA0 := hF.zero w0.heap.size w0
      go_loopw [7, 20] (fun u7 i wr => ∃ k : Nat, k ≤ xs.length ∧ i = .int .i64 k ∧ A w0.heap.size u7 wr (.inr (xs.take k)) ∧ Below w0.heap.size w0 wr) (fun _ i _ => xs.length - (intOf i).toNat)
      case atStart => exact ⟨0, by omega, rfl, hA0, Below.refl _ _⟩
      case round =>
        obtain ⟨k, hk, rfl, hA, hW⟩ := hrel
        have hsz := hW.size
        have hLr := (hL.from_ hb0).from_ (hW.mono (by omega))
        have hCr := hC0.from_ (hW.mono (by omega))
        by_cases hlt : k < xs.length
        · obtain ⟨b, o, cp, l', d', ys, u, hve, hbn, hxk, e0, e1, e2, hLu⟩ := hLr.at_ hlt
          obtain ⟨rfl, rfl⟩ : a = some ⟨b, o, none⟩ ∧ cap = cp := by cases hve; exact ⟨rfl, rfl⟩
          clear hve
          obtain ⟨a2, cap2, hu, _, _⟩ := hLu.slice
          subst hu
          have hk2 : k < 4000 := by omega
          have hcx := M.cntI_part (List.mem_of_getElem? hxk)
          rw [M.cntI] at hcx
          have hsx := size_get hxk
          rw [M.It.mk.sizeOf_spec] at hsx
          obtain ⟨hok1, hok2⟩ := HP.out k _ hxk
          rw [M.take_next hxk] at hok2
          have IH : Hid (∀ W, Below wr.heap.size wr W → Calls Tryz.prog 130 #[iv l' d' (.slice a2 ys.length cap2), .pointer (some ⟨p, 0, none⟩), .pointer (some ⟨q, 0, none⟩), .pointer (some ⟨r, 0, none⟩), .pointer (some ⟨s, 0, none⟩)] W fun e w' => (∃ u, e = .returned u ∧ R W.heap.size u w' (.inl (.mk l' d' ys))) ∧ Below W.heap.size W w') :=
            fun W hb => ih l' d' ys _ W (by omega) ((hLu.from_ (hb.mono (by omega))).mono (by have := hb.size; omega)) (by omega) hok1 ((hCr.from_ (hb.mono (by omega))).mono (by have := hb.size; omega))
          clear ih
          go_wp2_with fail
          have hb1 : Below wr.heap.size wr (wr.alloc (.cells #[.bool l', .string ⟨d'.toArray⟩, .slice a2 ys.length cap2] 45)) := by (repeat (first | exact Below.refl _ _ | refine Below.drew ?_ | refine Below.alloc ?_ (by first | omega | (simp; omega) | simp) _ | refine Below.setCell ?_ (by first | omega | (simp; omega) | simp) _))
          have hB1 := Box.new wr l' d' (.slice a2 ys.length cap2) 45
          generalize hw1 : wr.alloc (.cells #[.bool l', .string ⟨d'.toArray⟩, .slice a2 ys.length cap2] 45) = w1 at *
          have hz1 : w1.heap.size = wr.heap.size + 1 := by rw [← hw1]; simp
          clear hw1
          have hb1d : Below wr.heap.size wr w1.drew := hb1.drew
          have mixed : Tryz.prog.follows .mixedOrders = true := by kernel_rfl
          have hT : ∀ W, Below w1.heap.size w1 W → W.cell? ⟨q, 0, none⟩ = some (.func (.func g2) #[] #[]) ∧ W.cell? ⟨r, 0, none⟩ = some (.func (.func 130) #[] #[.pointer (some ⟨p, 0, none⟩), .pointer (some ⟨q, 0, none⟩), .pointer (some ⟨r, 0, none⟩), .pointer (some ⟨s, 0, none⟩)]) ∧
              W.cell? ⟨wr.heap.size, 0, none⟩ = some (.bool l') ∧ W.cell? ⟨wr.heap.size, 1, none⟩ = some (.string ⟨d'.toArray⟩) ∧ W.cell? ⟨wr.heap.size, 2, none⟩ = some (.slice a2 ys.length cap2) := fun W hb => by
            have hc := (hCr.from_ (hb1.mono (by omega))).from_ (hb.mono (by omega))
            have hx := hB1.from_ hb (by omega)
            exact ⟨hc.cq, hc.cr, hx.c0, hx.c1, hx.c2⟩
          have hS1 := hT w1.drew (Below.drew (Below.refl _ _))
          have HT := Lib.hid hT
          have HS1 := Lib.hid hS1
          clear hT hS1 hb1
          have hown := hF.own _ _ _ _ hA
          have hq := hC.hq
          have hr := hC.hr
          have hz2 : ∀ W, Below wr.heap.size wr W → w0.heap.size ≤ W.heap.size := fun W h => Nat.le_trans hsz h.size
          have hAd := hF.keepA _ _ _ _ _ hA hb1d
          have KEPT : ∀ {W W' : World}, (W.cell? ⟨q, 0, none⟩ = some (.func (.func g2) #[] #[]) ∧ W.cell? ⟨r, 0, none⟩ = some (.func (.func 130) #[] #[.pointer (some ⟨p, 0, none⟩), .pointer (some ⟨q, 0, none⟩), .pointer (some ⟨r, 0, none⟩), .pointer (some ⟨s, 0, none⟩)]) ∧
              W.cell? ⟨wr.heap.size, 0, none⟩ = some (.bool l') ∧ W.cell? ⟨wr.heap.size, 1, none⟩ = some (.string ⟨d'.toArray⟩) ∧ W.cell? ⟨wr.heap.size, 2, none⟩ = some (.slice a2 ys.length cap2)) → W.grownBy W' u7.ownBlock → (W'.cell? ⟨q, 0, none⟩ = some (.func (.func g2) #[] #[]) ∧ W'.cell? ⟨r, 0, none⟩ = some (.func (.func 130) #[] #[.pointer (some ⟨p, 0, none⟩), .pointer (some ⟨q, 0, none⟩), .pointer (some ⟨r, 0, none⟩), .pointer (some ⟨s, 0, none⟩)]) ∧
              W'.cell? ⟨wr.heap.size, 0, none⟩ = some (.bool l') ∧ W'.cell? ⟨wr.heap.size, 1, none⟩ = some (.string ⟨d'.toArray⟩) ∧ W'.cell? ⟨wr.heap.size, 2, none⟩ = some (.slice a2 ys.length cap2)) := fun {W W'} ⟨h1, h2, h3, h4, h5⟩ hg =>
            ⟨cell_grown hg h1 (fun e => by have := hown _ e; omega), cell_grown hg h2 (fun e => by have := hown _ e; omega), cell_grown hg h3 (fun e => by have := hown _ e; omega), cell_grown hg h4 (fun e => by have := hown _ e; omega), cell_grown hg h5 (fun e => by have := hown _ e; omega)⟩
          have HO := Lib.hid hown
          clear hown hq hr
          go_region_held3 (fun W => W.cell? ⟨q, 0, none⟩ = some (.func (.func g2) #[] #[]) ∧ W.cell? ⟨r, 0, none⟩ = some (.func (.func 130) #[] #[.pointer (some ⟨p, 0, none⟩), .pointer (some ⟨q, 0, none⟩), .pointer (some ⟨r, 0, none⟩), .pointer (some ⟨s, 0, none⟩)]) ∧
              W.cell? ⟨wr.heap.size, 0, none⟩ = some (.bool l') ∧ W.cell? ⟨wr.heap.size, 1, none⟩ = some (.string ⟨d'.toArray⟩) ∧ W.cell? ⟨wr.heap.size, 2, none⟩ = some (.slice a2 ys.length cap2))
            (first | exact HS1.out | exact HS2.out | exact HS3.out | go_keep)
            (first | (go_at_call 130; refine (IH.out _ hb1d).mono ?_; rintro e w2 ⟨⟨x2, rfl, hR⟩, hb2⟩; have HS2 := Lib.hid (HT.out w2 ((Below.drew (Below.refl _ _)).trans hb2)); have hA2 := hF.keepA _ _ _ _ _ hAd hb2) | (refine (H2.out _ _ _ _ _ _ _ hok2 hA2 hR (hz2 _ (hb1d.trans (hb2.mono hb1d.size)))).mono ?_; rintro e w3 ⟨⟨x3, rfl, hA3⟩, hg⟩; have HS3 := Lib.hid (KEPT HS2.out hg)))
          have hw2 : Below w0.heap.size w0 w2 := hW.trans ((hb1d.trans (hb2.mono hb1d.size)).mono hsz)
          have hw3 : Below w0.heap.size w0 w3 := hw2.grown hg hw2.size (fun k e => (HO.out k e).1)
          rw [← M.take_next hxk] at hA3
          go_wp2_with fail
          go_roundw
          case rel => exact ⟨k + 1, by omega, by simp, hA3, hw3⟩
          case measure => simp [intOf]; omega
        · obtain rfl : k = xs.length := by omega
          have hk2 : xs.length ≤ 4000 := by omega
          have ks := hCr.cs
          rw [List.take_length] at hA
          clear ih
          go_wp2_with fail
          refine (H3.out d xs _ _ _ hok hA).mono ?_
          rintro e w1 ⟨⟨x, rfl, hx⟩, hb1⟩
          go_wp2_with fail
          go_ret
          exact ⟨⟨x, rfl, hF.monoR _ _ _ _ _ hx (by omega)⟩, hb0.trans ((hW.mono (by omega)).trans (hb1.mono (by omega)))⟩
end Go.Proofs.YtihiacbhdcahkaaGreatDoor
namespace Go.Proofs.YtihiacbhdcahkaaGreatDoor
open Go Go.RowKit

set_option maxRecDepth 100000 in
set_option maxHeartbeats 4000000 in
theorem foldb_any {g1 g2 g3 : FuncId} {ok : M.It → Prop} {oks : List M.It → Prop} {R A : Nat → Value → World → (M.It ⊕ List M.It) → Prop} (hF : Folds g1 g2 g3 ok oks R A (.slice none 0 0))
    (l : Bool) (d : List UInt8) (xs : List M.It) (v : Value) (w : World) (hL : Lay w w.heap.size xs v) (hc : M.cntIs xs ≤ 4000) (hok : ok (.mk l d xs)) :
    Calls Tryz.prog 83 #[iv l d v, .func (.func g1) #[] #[], .func (.func g2) #[] #[], .func (.func g3) #[] #[]] w fun e w' => (∃ u, e = .returned u ∧ R w.heap.size u w' (.inl (.mk l d xs))) ∧ Below w.heap.size w w' := by
  obtain ⟨a, cap, hv, _, _⟩ := hL.slice
  subst hv
  have hmf : ∀ (fn : Fn) (first cap : Array Value) (w : World), (Instr.makeFunc fn first cap).run Tryz.prog w = .ok (.func fn first cap) w := fun _ _ _ _ => rfl
  have hst : ∀ (W : World) (p : Addr) (F : Fn) (xa xb : Array Value), (W.cell? p).isSome = true → W.frozen? p = false → (store p (.func F xa xb)).run Tryz.prog W = .ok () (W.setCell p (.func F xa xb)) := by
    intro W p F xa xb h1 h2
    rw [run_store _ _ _ _ _ rfl]
    obtain ⟨x, hx⟩ := Option.isSome_iff_exists.1 h1
    rw [hx]
    simp [h2]
  go_enter Tryz.func83, Tryz.ntmps83
  go_wp2_with fail
  refine (foldb_n hF (w.heap.size + 1) (w.heap.size + 1 + 1) (w.heap.size + 1 + 1 + 1 + 1) (w.heap.size + 1 + 1 + 1) _ l d xs _ _ (Nat.le_refl _) ?lay hc hok ?caps).mono ?_
  case lay =>
    refine (hL.from_ (W := _) ?_).mono ?_
    · (repeat (first | exact Below.refl _ _ | refine Below.drew ?_ | refine Below.alloc ?_ (by first | omega | (simp; omega) | simp) _ | refine Below.setCell ?_ (by first | omega | (simp; omega) | simp) _))
    · simp; omega
  case caps =>
    constructor <;> first | (simp; done) | (simp; omega) | (simp [go_sem]; done)
  rintro e w1 ⟨⟨u, rfl, hu⟩, hb1⟩
  go_wp2_with fail
  go_ret
  refine ⟨⟨u, rfl, hF.monoR _ _ _ _ _ hu (by simp; omega)⟩, Below.trans ?_ (hb1.mono (by simp; omega))⟩
  (repeat (first | exact Below.refl _ _ | refine Below.drew ?_ | refine Below.alloc ?_ (by first | omega | (simp; omega) | simp) _ | refine Below.setCell ?_ (by first | omega | (simp; omega) | simp) _))
end Go.Proofs.YtihiacbhdcahkaaGreatDoor
