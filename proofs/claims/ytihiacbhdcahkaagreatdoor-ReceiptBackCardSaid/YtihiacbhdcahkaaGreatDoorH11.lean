/- The contract of word.Fixed: a number's 32 bytes. From the walks of word.Fixed and word.Unfixed to numbers and their bytes. Contracts of word.Bytes and word.Parse. Contracts of the word package's plain functions over this seat's translation. -/
import Derived.Test.YtihiacbhdcahkaaGreatDoorF1g
import Derived.Laws.BytesArg
import Derived.Test.YtihiacbhdcahkaaGreatDoorW5g
import Derived.Test.YtihiacbhdcahkaaGreatDoorH01
import Derived.Laws.Bits64b
import Derived.Test.YtihiacbhdcahkaaGreatDoorSh
import Derived.Test.YtihiacbhdcahkaaGreatDoorH09
namespace Go.Proofs.YtihiacbhdcahkaaGreatDoor
open Go Go.RowKit Go.Shelf
attribute [local go_sem] Oper.semAt_some

theorem wpIn_same {F : Fence} {n : Nat} {P : Program} {c : Code} {Q : Exit → Act → World → Prop} {a a' : Act} {w w' : World} (h : c.wpIn F n P (nrm fun b u => b = a' ∧ u = w') a w) (hQ : Q .normal a' w') : c.wpIn F n P Q a w :=
  wpIn_mono' h (fun _ _ ⟨h1, h2⟩ => h1 ▸ h2 ▸ hQ)

/-- The eight bytes of a part, the highest one first. -/
def be8 (v : Int) : List Int := [IntKind.u8.wrap (v / 2 ^ (56 : Int).toNat), IntKind.u8.wrap (v / 2 ^ (48 : Int).toNat), IntKind.u8.wrap (v / 2 ^ (40 : Int).toNat), IntKind.u8.wrap (v / 2 ^ (32 : Int).toNat), IntKind.u8.wrap (v / 2 ^ (24 : Int).toNat), IntKind.u8.wrap (v / 2 ^ (16 : Int).toNat), IntKind.u8.wrap (v / 2 ^ (8 : Int).toNat), IntKind.u8.wrap (v / 2 ^ (0 : Int).toNat)]
/-- What the bytes that have been put down are: n of them in the block behind the box. -/
structure FX (w W : World) (n : Nat) (bs : List Int) : Prop where
  box : W.cell? ⟨w.heap.size + 1 + 1, 0, none⟩ = some (.slice (some ⟨w.heap.size + 1, 0, none⟩) n 32)
  fbox : W.frozen? ⟨w.heap.size + 1 + 1, 0, none⟩ = false
  fr : ∀ j, j < 32 → W.frozen? ⟨w.heap.size + 1, j, none⟩ = false
  cs : ∀ j, j < n → W.cell? ⟨w.heap.size + 1, j, none⟩ = some (.int .u8 (bs.getD j 0))
  som : ∀ j, j < 32 → (W.cell? ⟨w.heap.size + 1, j, none⟩).isSome = true
  len : bs.length = n
  low : Below w.heap.size w W
  ge : w.heap.size + 4 ≤ W.heap.size

theorem fx_start {w W0 : World} {t1 t2 t3 : Nat} {cs1 cs3 : Array Value} (h : ((((w.alloc (Obj.cells cs1 t1)).alloc (Obj.cells #[.int .u8 0, .int .u8 0, .int .u8 0, .int .u8 0, .int .u8 0, .int .u8 0, .int .u8 0, .int .u8 0, .int .u8 0, .int .u8 0, .int .u8 0, .int .u8 0, .int .u8 0, .int .u8 0, .int .u8 0, .int .u8 0, .int .u8 0, .int .u8 0, .int .u8 0, .int .u8 0, .int .u8 0, .int .u8 0, .int .u8 0, .int .u8 0, .int .u8 0, .int .u8 0, .int .u8 0, .int .u8 0, .int .u8 0, .int .u8 0, .int .u8 0, .int .u8 0] t2)).alloc (Obj.cells #[.slice (some ⟨w.heap.size + 1, 0, none⟩) 0 32] t3)).alloc (Obj.cells cs3 t1)) = W0) : FX w W0 0 [] := by
  subst h
  refine ⟨by simp [go_sem], by simp [go_sem], fun j hj => by simp [go_sem], fun j hj => absurd hj (by simp), fun j hj => ?_, rfl, ?_, by simp⟩
  · have : j = 0 ∨ j = 1 ∨ j = 2 ∨ j = 3 ∨ j = 4 ∨ j = 5 ∨ j = 6 ∨ j = 7 ∨ j = 8 ∨ j = 9 ∨ j = 10 ∨ j = 11 ∨ j = 12 ∨ j = 13 ∨ j = 14 ∨ j = 15 ∨ j = 16 ∨ j = 17 ∨ j = 18 ∨ j = 19 ∨ j = 20 ∨ j = 21 ∨ j = 22 ∨ j = 23 ∨ j = 24 ∨ j = 25 ∨ j = 26 ∨ j = 27 ∨ j = 28 ∨ j = 29 ∨ j = 30 ∨ j = 31 := by omega
    rcases this with rfl | rfl | rfl | rfl | rfl | rfl | rfl | rfl | rfl | rfl | rfl | rfl | rfl | rfl | rfl | rfl | rfl | rfl | rfl | rfl | rfl | rfl | rfl | rfl | rfl | rfl | rfl | rfl | rfl | rfl | rfl | rfl <;> simp [go_sem]
  · (repeat (first | exact Below.refl _ _ | refine Below.drew ?_ | refine Below.alloc ?_ (by first | omega | (simp; omega) | simp) _ | refine Below.setCell ?_ (by first | omega | (simp; omega) | simp) _))

theorem fx_kept {w A B : World} {row : Option Nat} {n : Nat} {bs : List Int} (hf : FX w A n bs) (hg : A.grownBy B row) (hr : ∀ r, row = some r → w.heap.size + 4 ≤ r ∧ ∃ o : Obj, A.heap[r]? = some o ∧ o.isCells = false) : FX w B n bs := by
  have hr' : ∀ r, row = some r → ∃ o : Obj, A.heap[r]? = some o ∧ o.isCells = false := fun r e => (hr r e).2
  refine ⟨cell_kept hf.box hg hr', (frozen_kept hf.box hg hr').trans hf.fbox, fun j hj => ?_, fun j hj => cell_kept (hf.cs j hj) hg hr', fun j hj => ?_, hf.len, hf.low.grown hg hf.low.size (fun k e => by have := (hr k e).1; omega), ?_⟩
  · obtain ⟨u, hu⟩ := Option.isSome_iff_exists.1 (hf.som j hj)
    exact (frozen_kept hu hg hr').trans (hf.fr j hj)
  · obtain ⟨u, hu⟩ := Option.isSome_iff_exists.1 (hf.som j hj)
    rw [cell_kept hu hg hr']
    rfl
  · have := ((Below.refl 0 A).grown hg (by omega) (fun _ _ => Nat.zero_le _)).size
    have := hf.ge
    omega

/-- One byte more. -/
theorem fx_step {w W : World} {n : Nat} {bs : List Int} (b : Int) (hf : FX w W n bs) (hn : n < 32) :
    ∃ n1 W1, (((W.setCell ⟨w.heap.size + 1, n, none⟩ (.int .u8 b)).setCell ⟨w.heap.size + 1 + 1, 0, none⟩ (.slice (some ⟨w.heap.size + 1, 0, none⟩) (n + 1) 32)).alloc (.cells #[.int .u8 b] 5)).drew = W1 ∧ n + 1 = n1 ∧ FX w W1 n1 (bs ++ [b]) ∧ KeepsOthers W W1 ∧ KeepsB (w.heap.size + 1 + 1 + 1) W W1 := by
  obtain ⟨box, fbox, fr, cs, som, len, low, ge⟩ := hf
  refine ⟨_, _, rfl, rfl, ⟨?_, ?_, ?_, ?_, ?_, ?_, ?_, ?_⟩, ?_, ?_⟩
  · have h1 : w.heap.size + 1 + 1 < W.heap.size := by omega
    simp [go_sem, h1, box]
  · have h1 : w.heap.size + 1 + 1 < W.heap.size := by omega
    simp [go_sem, h1, fbox]
  · intro j hj
    have h1 : w.heap.size + 1 < W.heap.size := by omega
    simp [go_sem, h1, fr j hj]
  · intro j hj
    have h1 : w.heap.size + 1 < W.heap.size := by omega
    by_cases e : j = n
    · subst e
      have hs := som j (by omega)
      obtain ⟨u, hu⟩ := Option.isSome_iff_exists.1 hs
      have : (bs ++ [b]).getD j 0 = b := by rw [← len]; simp
      rw [this]
      simp [go_sem, h1, hu]
    · have hc := cs j (by omega)
      have : (bs ++ [b]).getD j 0 = bs.getD j 0 := by
        have : j < bs.length := by omega
        simp [List.getElem?_append_left this]
      rw [this]
      simp [go_sem, h1, hc]
  · intro j hj
    have h1 : w.heap.size + 1 < W.heap.size := by omega
    obtain ⟨u, hu⟩ := Option.isSome_iff_exists.1 (som j hj)
    by_cases e : j = n
    · subst e
      simp [go_sem, h1, hu]
    · simp [go_sem, h1, hu]
  · simp [len]
  · exact (((low.setCell (p := ⟨w.heap.size + 1, n, none⟩) (by simp) _).setCell (p := ⟨w.heap.size + 1 + 1, 0, none⟩) (by simp; omega) _).alloc (by simp; omega) _).drew
  · simp
    omega
  · exact (((KeepsOthers.setCell _ _ _).trans (KeepsOthers.setCell _ _ _)).trans (KeepsOthers.alloc _ _)).trans (KeepsOthers.drew _)
  · intro j
    have h1 : w.heap.size + 1 + 1 + 1 < W.heap.size := by omega
    simp [go_sem, h1]

theorem fx_own {α : Type} {w : World} {B : Nat} (hB : w.heap.size + 4 ≤ B) (f : List α → List Int) (g : List α → Nat) : OwnFrom B (fun pre W => FX w W (g pre) (f pre)) :=
  fun _ _ _ _ hs hg hr => fx_kept hs hg (fun r e => ⟨Nat.le_trans hB (hr r e).1, (hr r e).2⟩)
set_option maxRecDepth 100000 in
set_option maxHeartbeats 8000000 in
theorem fixed_in (a0 a1 a2 a3 : Int) (w : World) :
    CallsIn Fence.wide 4 Tryz.prog 123 #[wd a0 a1 a2 a3] w fun e W' => e = .returned (.string (strOfNums (be8 a3 ++ be8 a2 ++ be8 a1 ++ be8 a0))) ∧ Below w.heap.size w W' := by
  have hro : Fence.wide.round = none := rfl
  refine callsIn_of_wp_marks Tryz.func123 rfl trivial ?_ hro
  simp only [Tryz.ntmps123, List.size_toArray, List.length_cons, List.length_nil, Nat.reduceAdd, Nat.reduceSub, Array.replicate_succ, Array.replicate_zero, List.push_toArray, List.append_toArray, List.nil_append, List.cons_append]
  have hmk : ∀ w : World, (Instr.makeSlice 76 (.int .i64 0) (.int .i64 32)).run Tryz.prog w = .ok (.slice (some ⟨w.heap.size, 0, none⟩) 0 32) (w.alloc (.cells #[.int .u8 0, .int .u8 0, .int .u8 0, .int .u8 0, .int .u8 0, .int .u8 0, .int .u8 0, .int .u8 0, .int .u8 0, .int .u8 0, .int .u8 0, .int .u8 0, .int .u8 0, .int .u8 0, .int .u8 0, .int .u8 0, .int .u8 0, .int .u8 0, .int .u8 0, .int .u8 0, .int .u8 0, .int .u8 0, .int .u8 0, .int .u8 0, .int .u8 0, .int .u8 0, .int .u8 0, .int .u8 0, .int .u8 0, .int .u8 0, .int .u8 0, .int .u8 0] 5)) := fun _ => by kernel_rfl
  gi_wp2_with (refine ⟨trivial, ?_⟩; gi_at_call 201; refine (top_in _ _ trivial rfl _ _ _ _ _).mono ?_; rintro e w' ⟨rfl, rfl⟩)
  generalize hW0 : ((((w.alloc (Obj.cells #[.int .u64 a0, .int .u64 a1, .int .u64 a2, .int .u64 a3] 89)).alloc (Obj.cells #[.int .u8 0, .int .u8 0, .int .u8 0, .int .u8 0, .int .u8 0, .int .u8 0, .int .u8 0, .int .u8 0, .int .u8 0, .int .u8 0, .int .u8 0, .int .u8 0, .int .u8 0, .int .u8 0, .int .u8 0, .int .u8 0, .int .u8 0, .int .u8 0, .int .u8 0, .int .u8 0, .int .u8 0, .int .u8 0, .int .u8 0, .int .u8 0, .int .u8 0, .int .u8 0, .int .u8 0, .int .u8 0, .int .u8 0, .int .u8 0, .int .u8 0, .int .u8 0] 5)).alloc (Obj.cells #[.slice (some ⟨w.heap.size + 1, 0, none⟩) 0 32] 76)).alloc (Obj.cells #[.int .u64 a0, .int .u64 a1, .int .u64 a2, .int .u64 a3] 89)) = W0
  have hsz : W0.heap.size = w.heap.size + 4 := by rw [← hW0]; simp
  have k0 : W0.cell? ⟨w.heap.size + 1 + 1 + 1, 0, none⟩ = some (.int .u64 a0) := by rw [← hW0]; simp [go_sem]
  have k1 : W0.cell? ⟨w.heap.size + 1 + 1 + 1, 1, none⟩ = some (.int .u64 a1) := by rw [← hW0]; simp [go_sem]
  have k2 : W0.cell? ⟨w.heap.size + 1 + 1 + 1, 2, none⟩ = some (.int .u64 a2) := by rw [← hW0]; simp [go_sem]
  have k3 : W0.cell? ⟨w.heap.size + 1 + 1 + 1, 3, none⟩ = some (.int .u64 a3) := by rw [← hW0]; simp [go_sem]
  have hF0 : FX w W0 0 [] := fx_start hW0
  clear hW0 hmk
  refine wpIn_rangeFunc_ownF hro (by omega) (gf := 263) (lb := #[.pointer (some ⟨w.heap.size + 1 + 1 + 1, 0, none⟩)]) rfl trivial (enters_of Tryz.func263 (by kernel_rfl) rfl)
    (top_stops Fence.wide 3 trivial rfl (by omega) (w.heap.size + 1 + 1 + 1) a0 a1 a2 a3 W0 (by omega) k0 k1 k2 k3) keepsB_t (keepsB_b (by omega)) (Below.refl _ _) (fun _ => rfl)
    (fun pre W => FX w W (8 * pre.length) (pre.flatMap (fun x => be8 (at4 a0 a1 a2 a3 x))))
    (fun _ _ _ => False)
    (fx_own (by omega) _ _)
    (fun _ _ _ _ _ hs _ _ => hs)
    hF0
    (fun x => { tmps := #[wd a0 a1 a2 a3, .pointer (some ⟨w.heap.size, 0, none⟩), .string ⟨#[]⟩, .pointer (some ⟨w.heap.size + 1 + 1, 0, none⟩), undef, .int .u64 (at4 a0 a1 a2 a3 x), undef, .slice (some ⟨w.heap.size + 1, 0, none⟩) 0 32, wd a0 a1 a2 a3, .func (.func 263) #[] #[.pointer (some ⟨w.heap.size + 1 + 1 + 1, 0, none⟩)], .int .i64 (x.val : Int), .int .u64 (at4 a0 a1 a2 a3 x), undef, undef, undef, undef, undef, undef, undef, undef, undef, undef, undef, undef, undef, undef, undef], defers := [] }) ?assign ?body ?done ?stop
  case assign =>
    intro l x W K hK
    gi_wp2
    exact hK
  case body =>
    rintro l pre x Ws hFs hlen
    clear k0 k1 k2 k3 hF0 hsz
    have HP : Hid ((pre ++ [x]).flatMap (fun x => be8 (at4 a0 a1 a2 a3 x)) = pre.flatMap (fun x => be8 (at4 a0 a1 a2 a3 x)) ++ be8 (at4 a0 a1 a2 a3 x)) := by
      show _ = _
      simp
    generalize hv : at4 a0 a1 a2 a3 x = v at HP ⊢
    clear hv
    generalize hbs : pre.flatMap (fun x => be8 (at4 a0 a1 a2 a3 x)) = bs at hFs HP
    clear hbs
    obtain ⟨n0, hn0'⟩ : ∃ n0, 8 * pre.length = n0 := ⟨_, rfl⟩
    rw [hn0'] at hFs
    have HN := Lib.hid hn0'
    have hn0 : n0 + 8 ≤ 32 := by omega
    clear hn0' hlen
    obtain ⟨W0, e0⟩ : ∃ W0, Ws = W0 := ⟨_, rfl⟩
    have hO : KeepsOthers Ws W0 := e0 ▸ KeepsOthers.refl _
    have hK : KeepsB (w.heap.size + 1 + 1 + 1) Ws W0 := e0 ▸ fun _ => rfl
    have hF0 : FX w W0 n0 bs := e0 ▸ hFs
    rw [e0]
    gi_wp2
    refine wpIn_loop_rounds 9 ?_
    rw [roundsIn_succ]
    gi_wp2
    obtain ⟨u, hu⟩ := Option.isSome_iff_exists.1 (hF0.som n0 (by omega))
    refine wpIn_same (fixed_reg l n0 w.heap.size v 0 7 56 (v / 2 ^ (56 : Int).toNat) u W0 _ _ _ _ _ _ _ _ _ _ _ _ _ _ _ _ _ _ _ _ _ _ _ _ _ (by kernel_rfl) hF0.box hF0.fbox hu (hF0.fr n0 (by omega)) (by omega) (by have := hF0.ge; omega) (by have := hF0.ge; omega) (by decide) (by decide) (by omega) (by omega) rfl) ?_
    clear hu u
    obtain ⟨n1, W1, hW, hm, hF1, hO1, hK1⟩ := fx_step (IntKind.u8.wrap (v / 2 ^ (56 : Int).toNat)) hF0 (by omega)
    rw [hW, hm]
    replace hO := hO.trans hO1
    replace hK := keepsB_t hK hK1
    have hn1 : n1 + 7 ≤ 32 := by omega
    have HM1 := Lib.hid hm
    clear hW hO1 hK1 hF0 hn0 hm
    gi_wp2
    rw [roundsIn_succ]
    gi_wp2
    obtain ⟨u, hu⟩ := Option.isSome_iff_exists.1 (hF1.som n1 (by omega))
    refine wpIn_same (fixed_reg l n1 w.heap.size v 1 6 48 (v / 2 ^ (48 : Int).toNat) u W1 _ _ _ _ _ _ _ _ _ _ _ _ _ _ _ _ _ _ _ _ _ _ _ _ _ (by kernel_rfl) hF1.box hF1.fbox hu (hF1.fr n1 (by omega)) (by omega) (by have := hF1.ge; omega) (by have := hF1.ge; omega) (by decide) (by decide) (by omega) (by omega) rfl) ?_
    clear hu u
    obtain ⟨n2, W2, hW, hm, hF2, hO1, hK1⟩ := fx_step (IntKind.u8.wrap (v / 2 ^ (48 : Int).toNat)) hF1 (by omega)
    rw [hW, hm]
    replace hO := hO.trans hO1
    replace hK := keepsB_t hK hK1
    have hn2 : n2 + 6 ≤ 32 := by omega
    have HM2 := Lib.hid hm
    clear hW hO1 hK1 hF1 hn1 hm
    gi_wp2
    rw [roundsIn_succ]
    gi_wp2
    obtain ⟨u, hu⟩ := Option.isSome_iff_exists.1 (hF2.som n2 (by omega))
    refine wpIn_same (fixed_reg l n2 w.heap.size v 2 5 40 (v / 2 ^ (40 : Int).toNat) u W2 _ _ _ _ _ _ _ _ _ _ _ _ _ _ _ _ _ _ _ _ _ _ _ _ _ (by kernel_rfl) hF2.box hF2.fbox hu (hF2.fr n2 (by omega)) (by omega) (by have := hF2.ge; omega) (by have := hF2.ge; omega) (by decide) (by decide) (by omega) (by omega) rfl) ?_
    clear hu u
    obtain ⟨n3, W3, hW, hm, hF3, hO1, hK1⟩ := fx_step (IntKind.u8.wrap (v / 2 ^ (40 : Int).toNat)) hF2 (by omega)
    rw [hW, hm]
    replace hO := hO.trans hO1
    replace hK := keepsB_t hK hK1
    have hn3 : n3 + 5 ≤ 32 := by omega
    have HM3 := Lib.hid hm
    clear hW hO1 hK1 hF2 hn2 hm
    gi_wp2
    rw [roundsIn_succ]
    gi_wp2
    obtain ⟨u, hu⟩ := Option.isSome_iff_exists.1 (hF3.som n3 (by omega))
    refine wpIn_same (fixed_reg l n3 w.heap.size v 3 4 32 (v / 2 ^ (32 : Int).toNat) u W3 _ _ _ _ _ _ _ _ _ _ _ _ _ _ _ _ _ _ _ _ _ _ _ _ _ (by kernel_rfl) hF3.box hF3.fbox hu (hF3.fr n3 (by omega)) (by omega) (by have := hF3.ge; omega) (by have := hF3.ge; omega) (by decide) (by decide) (by omega) (by omega) rfl) ?_
    clear hu u
    obtain ⟨n4, W4, hW, hm, hF4, hO1, hK1⟩ := fx_step (IntKind.u8.wrap (v / 2 ^ (32 : Int).toNat)) hF3 (by omega)
    rw [hW, hm]
    replace hO := hO.trans hO1
    replace hK := keepsB_t hK hK1
    have hn4 : n4 + 4 ≤ 32 := by omega
    have HM4 := Lib.hid hm
    clear hW hO1 hK1 hF3 hn3 hm
    gi_wp2
    rw [roundsIn_succ]
    gi_wp2
    obtain ⟨u, hu⟩ := Option.isSome_iff_exists.1 (hF4.som n4 (by omega))
    refine wpIn_same (fixed_reg l n4 w.heap.size v 4 3 24 (v / 2 ^ (24 : Int).toNat) u W4 _ _ _ _ _ _ _ _ _ _ _ _ _ _ _ _ _ _ _ _ _ _ _ _ _ (by kernel_rfl) hF4.box hF4.fbox hu (hF4.fr n4 (by omega)) (by omega) (by have := hF4.ge; omega) (by have := hF4.ge; omega) (by decide) (by decide) (by omega) (by omega) rfl) ?_
    clear hu u
    obtain ⟨n5, W5, hW, hm, hF5, hO1, hK1⟩ := fx_step (IntKind.u8.wrap (v / 2 ^ (24 : Int).toNat)) hF4 (by omega)
    rw [hW, hm]
    replace hO := hO.trans hO1
    replace hK := keepsB_t hK hK1
    have hn5 : n5 + 3 ≤ 32 := by omega
    have HM5 := Lib.hid hm
    clear hW hO1 hK1 hF4 hn4 hm
    gi_wp2
    rw [roundsIn_succ]
    gi_wp2
    obtain ⟨u, hu⟩ := Option.isSome_iff_exists.1 (hF5.som n5 (by omega))
    refine wpIn_same (fixed_reg l n5 w.heap.size v 5 2 16 (v / 2 ^ (16 : Int).toNat) u W5 _ _ _ _ _ _ _ _ _ _ _ _ _ _ _ _ _ _ _ _ _ _ _ _ _ (by kernel_rfl) hF5.box hF5.fbox hu (hF5.fr n5 (by omega)) (by omega) (by have := hF5.ge; omega) (by have := hF5.ge; omega) (by decide) (by decide) (by omega) (by omega) rfl) ?_
    clear hu u
    obtain ⟨n6, W6, hW, hm, hF6, hO1, hK1⟩ := fx_step (IntKind.u8.wrap (v / 2 ^ (16 : Int).toNat)) hF5 (by omega)
    rw [hW, hm]
    replace hO := hO.trans hO1
    replace hK := keepsB_t hK hK1
    have hn6 : n6 + 2 ≤ 32 := by omega
    have HM6 := Lib.hid hm
    clear hW hO1 hK1 hF5 hn5 hm
    gi_wp2
    rw [roundsIn_succ]
    gi_wp2
    obtain ⟨u, hu⟩ := Option.isSome_iff_exists.1 (hF6.som n6 (by omega))
    refine wpIn_same (fixed_reg l n6 w.heap.size v 6 1 8 (v / 2 ^ (8 : Int).toNat) u W6 _ _ _ _ _ _ _ _ _ _ _ _ _ _ _ _ _ _ _ _ _ _ _ _ _ (by kernel_rfl) hF6.box hF6.fbox hu (hF6.fr n6 (by omega)) (by omega) (by have := hF6.ge; omega) (by have := hF6.ge; omega) (by decide) (by decide) (by omega) (by omega) rfl) ?_
    clear hu u
    obtain ⟨n7, W7, hW, hm, hF7, hO1, hK1⟩ := fx_step (IntKind.u8.wrap (v / 2 ^ (8 : Int).toNat)) hF6 (by omega)
    rw [hW, hm]
    replace hO := hO.trans hO1
    replace hK := keepsB_t hK hK1
    have hn7 : n7 + 1 ≤ 32 := by omega
    have HM7 := Lib.hid hm
    clear hW hO1 hK1 hF6 hn6 hm
    gi_wp2
    rw [roundsIn_succ]
    gi_wp2
    obtain ⟨u, hu⟩ := Option.isSome_iff_exists.1 (hF7.som n7 (by omega))
    refine wpIn_same (fixed_reg l n7 w.heap.size v 7 0 0 (v / 2 ^ (0 : Int).toNat) u W7 _ _ _ _ _ _ _ _ _ _ _ _ _ _ _ _ _ _ _ _ _ _ _ _ _ (by kernel_rfl) hF7.box hF7.fbox hu (hF7.fr n7 (by omega)) (by omega) (by have := hF7.ge; omega) (by have := hF7.ge; omega) (by decide) (by decide) (by omega) (by omega) rfl) ?_
    clear hu u
    obtain ⟨n8, W8, hW, hm, hF8, hO1, hK1⟩ := fx_step (IntKind.u8.wrap (v / 2 ^ (0 : Int).toNat)) hF7 (by omega)
    rw [hW, hm]
    replace hO := hO.trans hO1
    replace hK := keepsB_t hK hK1
    have hn8 : n8 + 0 ≤ 32 := by omega
    have HM8 := Lib.hid hm
    clear hW hO1 hK1 hF7 hn7 hm
    gi_wp2
    rw [roundsIn_succ]
    gi_wp2
    subst e0
    have m0 := HN.out
    have m1 := HM1.out
    have m2 := HM2.out
    have m3 := HM3.out
    have m4 := HM4.out
    have m5 := HM5.out
    have m6 := HM6.out
    have m7 := HM7.out
    have m8 := HM8.out
    have e1 : 8 * (pre ++ [x]).length = n8 := by simp only [List.length_append, List.length_cons, List.length_nil]; omega
    have e2 : bs ++ be8 v = ((((((((bs ++ [IntKind.u8.wrap (v / 2 ^ (56 : Int).toNat)]) ++ [IntKind.u8.wrap (v / 2 ^ (48 : Int).toNat)]) ++ [IntKind.u8.wrap (v / 2 ^ (40 : Int).toNat)]) ++ [IntKind.u8.wrap (v / 2 ^ (32 : Int).toNat)]) ++ [IntKind.u8.wrap (v / 2 ^ (24 : Int).toNat)]) ++ [IntKind.u8.wrap (v / 2 ^ (16 : Int).toNat)]) ++ [IntKind.u8.wrap (v / 2 ^ (8 : Int).toNat)]) ++ [IntKind.u8.wrap (v / 2 ^ (0 : Int).toNat)]) := by simp only [be8, List.append_assoc, List.cons_append, List.nil_append]
    refine ⟨hO, hK, ?_⟩
    show FX w W8 (8 * (pre ++ [x]).length) ((pre ++ [x]).flatMap (fun x => be8 (at4 a0 a1 a2 a3 x)))
    rw [e1, HP.out, e2]
    exact hF8
  case done =>
    rintro D ys W hD rfl hF hK
    have hr := run_convert_bytes_arg W 76 5 Tryz.underlying76 Tryz.underlying5 (w.heap.size + 1) 0 32 32 _ hF.len (fun i hi => by rw [Nat.zero_add]; exact hF.cs i hi) 9 Tryz.underlying9
    have hbox := hF.box
    gi_wp2
    refine ⟨by simp, .inl ⟨_, _, rfl, run_takeDeferred hK, ?_⟩⟩
    exact ⟨_, results_tmp rfl _ _ _, by rw [List.append_assoc, List.append_assoc]; rfl, hF.low.trans (belowK_b (w := w) (Nat.le_refl _) W D _ _ (by omega) hK rfl rfl)⟩
  case stop =>
    rintro D c pre W _ _ h _
    exact h.elim
end Go.Proofs.YtihiacbhdcahkaaGreatDoor
namespace Go.Proofs.YtihiacbhdcahkaaGreatDoor
open Go Go.RowKit

theorem wrap8_nat (n : Nat) : IntKind.u8.wrap (n : Int) = ((n % 256 : Nat) : Int) := by
  show (n : Int) % (2 ^ 8 : Int) = _
  rfl

theorem byte_of (n k : Nat) : UInt8.ofNat (IntKind.u8.wrap ((n : Int) / ((k : Nat) : Int))).toNat = UInt8.ofNat (n / k % 256) := by
  rw [← Int.natCast_ediv, wrap8_nat, Int.toNat_natCast]

theorem be8_bytes {v : Int} (h : 0 ≤ v) : (be8 v).map (fun n => UInt8.ofNat n.toNat) = M.be 8 v.toNat := by
  obtain ⟨n, rfl⟩ := Int.eq_ofNat_of_zero_le h
  rw [Int.toNat_natCast, M.be8_eq]
  simp only [be8, List.map_cons, List.map_nil]
  rw [show (2 : Int) ^ (56 : Int).toNat = ((72057594037927936 : Nat) : Int) from rfl, show (2 : Int) ^ (48 : Int).toNat = ((281474976710656 : Nat) : Int) from rfl, show (2 : Int) ^ (40 : Int).toNat = ((1099511627776 : Nat) : Int) from rfl, show (2 : Int) ^ (32 : Int).toNat = ((4294967296 : Nat) : Int) from rfl, show (2 : Int) ^ (24 : Int).toNat = ((16777216 : Nat) : Int) from rfl, show (2 : Int) ^ (16 : Int).toNat = ((65536 : Nat) : Int) from rfl, show (2 : Int) ^ (8 : Int).toNat = ((256 : Nat) : Int) from rfl, show (2 : Int) ^ (0 : Int).toNat = ((1 : Nat) : Int) from rfl]
  rw [byte_of, byte_of, byte_of, byte_of, byte_of, byte_of, byte_of, byte_of, Nat.div_one]

theorem fixed_any (N : Nat) (w : World) (hN : M.In N) :
    Calls Tryz.prog 123 #[wn N] w fun e w' => e = .returned (.string ⟨(M.f32 N).toArray⟩) ∧ Below w.heap.size w w' := by
  have := callsIn_wide.1 (fixed_in (M.pt 0 N) (M.pt 1 N) (M.pt 2 N) (M.pt 3 N) w)
  have e : strOfNums (be8 (M.pt 3 N) ++ be8 (M.pt 2 N) ++ be8 (M.pt 1 N) ++ be8 (M.pt 0 N)) = ⟨(M.f32 N).toArray⟩ := by
    unfold strOfNums
    rw [List.map_append, List.map_append, List.map_append, be8_bytes (M.pt_nonneg _ _), be8_bytes (M.pt_nonneg _ _), be8_bytes (M.pt_nonneg _ _), be8_bytes (M.pt_nonneg _ _), ← M.f32_parts hN]
  rw [e] at this
  exact this

theorem st8_nat (n : Nat) (c : UInt8) (h : n < 72057594037927936) : st8 n c = ((n * 256 + c.toNat : Nat) : Int) := by
  have hc := c.toNat_lt
  unfold st8
  have e1 : IntKind.u64.wrap ((n : Int) * 256) = ((n * 256 : Nat) : Int) := by rw [IntKind.wrap_u64]; omega
  have e2 : IntKind.u64.wrap (c.toNat : Int) = ((c.toNat : Nat) : Int) := by rw [IntKind.wrap_u64]; omega
  rw [e1, e2, bits_or_u64_nat _ _ (by omega) (by omega)]
  have := Nat.two_pow_add_eq_or_of_lt (i := 8) (b := c.toNat) (by omega) n
  rw [Nat.mul_comm n 256]
  exact congrArg _ this.symm

theorem st8_dg (l : List UInt8) (c : UInt8) (h : l.length ≤ 7) : st8 (M.dg l : Nat) c = ((M.dg (l ++ [c]) : Nat) : Int) := by
  rw [M.dg_snoc]
  refine st8_nat _ _ (Nat.lt_of_lt_of_le (M.dg_lt l) ?_)
  exact Nat.pow_le_pow_right (n := 256) (by omega) h

theorem eight (c0 c1 c2 c3 c4 c5 c6 c7 : UInt8) : st8 (st8 (st8 (st8 (st8 (st8 (st8 (st8 0 c0) c1) c2) c3) c4) c5) c6) c7 = ((M.dg [c0, c1, c2, c3, c4, c5, c6, c7] : Nat) : Int) := by
  have e0 : st8 0 c0 = ((M.dg [c0] : Nat) : Int) := st8_dg [] c0 (by simp)
  rw [e0, st8_dg [c0] c1 (by simp), List.singleton_append, st8_dg [c0, c1] c2 (by simp)]
  simp only [List.cons_append, List.nil_append]
  rw [st8_dg [c0, c1, c2] c3 (by simp)]
  simp only [List.cons_append, List.nil_append]
  rw [st8_dg [c0, c1, c2, c3] c4 (by simp)]
  simp only [List.cons_append, List.nil_append]
  rw [st8_dg [c0, c1, c2, c3, c4] c5 (by simp)]
  simp only [List.cons_append, List.nil_append]
  rw [st8_dg [c0, c1, c2, c3, c4, c5] c6 (by simp)]
  simp only [List.cons_append, List.nil_append]
  rw [st8_dg [c0, c1, c2, c3, c4, c5, c6] c7 (by simp)]
  simp only [List.cons_append, List.nil_append]

theorem list32 (l : List UInt8) (h : l.length = 32) : ∃ x0 x1 x2 x3 x4 x5 x6 x7 x8 x9 x10 x11 x12 x13 x14 x15 x16 x17 x18 x19 x20 x21 x22 x23 x24 x25 x26 x27 x28 x29 x30 x31, l = [x0, x1, x2, x3, x4, x5, x6, x7, x8, x9, x10, x11, x12, x13, x14, x15, x16, x17, x18, x19, x20, x21, x22, x23, x24, x25, x26, x27, x28, x29, x30, x31] :=
  match l, h with
  | [x0, x1, x2, x3, x4, x5, x6, x7, x8, x9, x10, x11, x12, x13, x14, x15, x16, x17, x18, x19, x20, x21, x22, x23, x24, x25, x26, x27, x28, x29, x30, x31], _ => ⟨x0, x1, x2, x3, x4, x5, x6, x7, x8, x9, x10, x11, x12, x13, x14, x15, x16, x17, x18, x19, x20, x21, x22, x23, x24, x25, x26, x27, x28, x29, x30, x31, rfl⟩

theorem parts32 (x0 x1 x2 x3 x4 x5 x6 x7 x8 x9 x10 x11 x12 x13 x14 x15 x16 x17 x18 x19 x20 x21 x22 x23 x24 x25 x26 x27 x28 x29 x30 x31 : UInt8) : M.pt 0 (M.dg [x0, x1, x2, x3, x4, x5, x6, x7, x8, x9, x10, x11, x12, x13, x14, x15, x16, x17, x18, x19, x20, x21, x22, x23, x24, x25, x26, x27, x28, x29, x30, x31]) = ((M.dg [x24, x25, x26, x27, x28, x29, x30, x31] : Nat) : Int) ∧ M.pt 1 (M.dg [x0, x1, x2, x3, x4, x5, x6, x7, x8, x9, x10, x11, x12, x13, x14, x15, x16, x17, x18, x19, x20, x21, x22, x23, x24, x25, x26, x27, x28, x29, x30, x31]) = ((M.dg [x16, x17, x18, x19, x20, x21, x22, x23] : Nat) : Int) ∧ M.pt 2 (M.dg [x0, x1, x2, x3, x4, x5, x6, x7, x8, x9, x10, x11, x12, x13, x14, x15, x16, x17, x18, x19, x20, x21, x22, x23, x24, x25, x26, x27, x28, x29, x30, x31]) = ((M.dg [x8, x9, x10, x11, x12, x13, x14, x15] : Nat) : Int) ∧ M.pt 3 (M.dg [x0, x1, x2, x3, x4, x5, x6, x7, x8, x9, x10, x11, x12, x13, x14, x15, x16, x17, x18, x19, x20, x21, x22, x23, x24, x25, x26, x27, x28, x29, x30, x31]) = ((M.dg [x0, x1, x2, x3, x4, x5, x6, x7] : Nat) : Int) := by
  have e : M.dg [x0, x1, x2, x3, x4, x5, x6, x7, x8, x9, x10, x11, x12, x13, x14, x15, x16, x17, x18, x19, x20, x21, x22, x23, x24, x25, x26, x27, x28, x29, x30, x31] = ((M.dg [x0, x1, x2, x3, x4, x5, x6, x7] * 18446744073709551616 + M.dg [x8, x9, x10, x11, x12, x13, x14, x15]) * 18446744073709551616 + M.dg [x16, x17, x18, x19, x20, x21, x22, x23]) * 18446744073709551616 + M.dg [x24, x25, x26, x27, x28, x29, x30, x31] := by
    rw [← M.dg_app8 (r := [x8, x9, x10, x11, x12, x13, x14, x15]) rfl [x0, x1, x2, x3, x4, x5, x6, x7], ← M.dg_app8 (r := [x16, x17, x18, x19, x20, x21, x22, x23]) rfl, ← M.dg_app8 (r := [x24, x25, x26, x27, x28, x29, x30, x31]) rfl]
    simp only [List.cons_append, List.nil_append]
  have l0 := M.dg_8 (l := [x24, x25, x26, x27, x28, x29, x30, x31]) rfl
  have l1 := M.dg_8 (l := [x16, x17, x18, x19, x20, x21, x22, x23]) rfl
  have l2 := M.dg_8 (l := [x8, x9, x10, x11, x12, x13, x14, x15]) rfl
  have l3 := M.dg_8 (l := [x0, x1, x2, x3, x4, x5, x6, x7]) rfl
  generalize M.dg [x24, x25, x26, x27, x28, x29, x30, x31] = g0 at *
  generalize M.dg [x16, x17, x18, x19, x20, x21, x22, x23] = g1 at *
  generalize M.dg [x8, x9, x10, x11, x12, x13, x14, x15] = g2 at *
  generalize M.dg [x0, x1, x2, x3, x4, x5, x6, x7] = g3 at *
  refine M.parts (by omega) (by omega) (by omega) (by omega) (by omega) (by omega) (by omega) (by omega) ?_
  rw [e]
  omega

theorem unfixed_any (l : List UInt8) (w : World) (h : l.length = 32) :
    Calls Tryz.prog 254 #[.string ⟨l.toArray⟩] w fun e w' => e = .returned (.tuple #[wn (M.dg l), .int .i64 0]) ∧ Below w.heap.size w w' := by
  obtain ⟨x0, x1, x2, x3, x4, x5, x6, x7, x8, x9, x10, x11, x12, x13, x14, x15, x16, x17, x18, x19, x20, x21, x22, x23, x24, x25, x26, x27, x28, x29, x30, x31, rfl⟩ := list32 l h
  obtain ⟨p0, p1, p2, p3⟩ := parts32 x0 x1 x2 x3 x4 x5 x6 x7 x8 x9 x10 x11 x12 x13 x14 x15 x16 x17 x18 x19 x20 x21 x22 x23 x24 x25 x26 x27 x28 x29 x30 x31
  have := unfixed_core ⟨#[x0, x1, x2, x3, x4, x5, x6, x7, x8, x9, x10, x11, x12, x13, x14, x15, x16, x17, x18, x19, x20, x21, x22, x23, x24, x25, x26, x27, x28, x29, x30, x31]⟩ w _ _ _ _ rfl (fun _ _ => rfl) (fun c => rfl) (eight x24 x25 x26 x27 x28 x29 x30 x31) (eight x16 x17 x18 x19 x20 x21 x22 x23) (eight x8 x9 x10 x11 x12 x13 x14 x15) (eight x0 x1 x2 x3 x4 x5 x6 x7)
  rw [← p0, ← p1, ← p2, ← p3] at this
  exact this

end Go.Proofs.YtihiacbhdcahkaaGreatDoor
namespace Go.Proofs.YtihiacbhdcahkaaGreatDoor
open Go Go.RowKit Go.Shelf

theorem trimLeft_any (l : List UInt8) (w : World) :
    Calls Tryz.prog 122 #[.string ⟨l.toArray⟩, .string ⟨#[0]⟩] w fun e w' => e = .returned (.string ⟨(M.tr l).toArray⟩) ∧ w = w' :=
  (Any.strings_TrimLeft_one lays161 ⟨l.toArray⟩ 0 (by decide) w).mono fun _ _ ⟨h1, h2⟩ => ⟨h1, h2.symm⟩

theorem repeat_any (c : Nat) (w : World) (h : c ≤ 32) :
    Calls Tryz.prog 255 #[.string ⟨#[0]⟩, .int .i64 c] w fun e w' => e = .returned (.string ⟨(List.replicate c (0 : UInt8)).toArray⟩) ∧ Below w.heap.size w w' := by
  have e : Lib.repeatL (⟨#[0]⟩ : ByteArray).data.toList c = List.replicate c (0 : UInt8) := by
    have := Lib.repeatL_replicate 0 1 c
    rw [Nat.mul_one] at this
    exact this
  have := Any.strings_Repeat lays105 Builder_Extra_105 ⟨#[0]⟩ c w (by omega) (by show 1 * c ≤ _; omega)
  rw [e] at this
  exact this

theorem prefix_any (l : List UInt8) (b : Bool) (w : World) (h : Lib.hasPrefix l [0] = b) :
    Calls Tryz.prog 253 #[.string ⟨l.toArray⟩, .string ⟨#[0]⟩] w fun e w' => e = .returned (.bool b) ∧ w = w' :=
  (Any.strings_HasPrefix lays99 ⟨l.toArray⟩ ⟨#[0]⟩ w).mono fun _ _ ⟨h1, h2⟩ => ⟨h1.trans (congrArg (fun b => Ending.returned (.bool b)) h), h2.symm⟩

theorem bytes_any (N : Nat) (w : World) (hN : M.In N) :
    Calls Tryz.prog 79 #[wn N] w fun e w' => e = .returned (.string ⟨(M.tr (M.f32 N)).toArray⟩) ∧ Below w.heap.size w w' := by
  go_enter Tryz.func79, Tryz.ntmps79
  go_wp2_with fail
  refine (fixed_any N _ hN).mono ?_
  rintro e w1 ⟨rfl, hb⟩
  go_wp2_with fail
  refine (trimLeft_any (M.f32 N) _).mono ?_
  rintro e w2 ⟨rfl, rfl⟩
  go_wp2_with fail
  go_ret
  refine ⟨rfl, Below.trans ?_ (hb.mono (by first | omega | (simp; omega) | simp))⟩
  (repeat (first | exact Below.refl _ _ | refine Below.drew ?_ | refine Below.alloc ?_ (by first | omega | (simp; omega) | simp) _ | refine Below.setCell ?_ (by first | omega | (simp; omega) | simp) _))

theorem parse_spare (l : List UInt8) (w : World) (h : l.length ≤ 32) (hp : Hid (Lib.hasPrefix l [0] = true)) :
    Calls Tryz.prog 184 #[.string ⟨l.toArray⟩] w fun e w' => e = .returned (.tuple #[wd 0 0 0 0, .int .i64 8]) ∧ Below w.heap.size w w' := by
  go_enter Tryz.func184, Tryz.ntmps184
  go_wp2_with fail
  refine (prefix_any l true _ hp.out).mono ?_
  rintro e w1 ⟨rfl, rfl⟩
  go_wp2_with fail
  refine bodyPost_ret (v := .tuple #[wd 0 0 0 0, .int .i64 8]) (by simp [results, Tryz.results184, go_sem]) rfl ⟨rfl, ?_⟩
  (repeat (first | exact Below.refl _ _ | refine Below.drew ?_ | refine Below.alloc ?_ (by first | omega | (simp; omega) | simp) _ | refine Below.setCell ?_ (by first | omega | (simp; omega) | simp) _))

theorem parse_ok (l : List UInt8) (w : World) (h : l.length ≤ 32) (hp : Hid (Lib.hasPrefix l [0] = false)) :
    Calls Tryz.prog 184 #[.string ⟨l.toArray⟩] w fun e w' => e = .returned (.tuple #[wn (M.dg l), .int .i64 0]) ∧ Below w.heap.size w w' := by
  go_enter Tryz.func184, Tryz.ntmps184
  go_wp2_with fail
  refine (prefix_any l false _ hp.out).mono ?_
  rintro e w1 ⟨rfl, rfl⟩
  go_wp2_with fail
  rw [show (32 : Int) - (l.length : Int) = ((32 - l.length : Nat) : Int) from by omega]
  refine (repeat_any (32 - l.length) _ (by omega)).mono ?_
  rintro e w2 ⟨rfl, hb2⟩
  obtain ⟨hce, hfr⟩ := bcell hb2
  generalize hz : List.replicate (32 - l.length) (0 : UInt8) = zs
  have hz1 : zs.length ≤ 32 := by rw [← hz]; simp
  have hno : ¬ 9223372036854775807 < zs.length + l.length := by omega
  have HZ := Lib.hid hz
  clear hz
  go_wp2_with fail
  rw [cat_eq]
  refine (unfixed_any (zs ++ l) _ (by rw [← HZ.out]; simp; omega)).mono ?_
  rintro e w3 ⟨rfl, hb3⟩
  rw [show M.dg (zs ++ l) = M.dg l from by rw [← HZ.out]; exact M.dg_zeros _ _]
  have hb4 := Below.trans (hb2.mono (B' := (w.alloc (Obj.cells #[.int .u64 0, .int .u64 0, .int .u64 0, .int .u64 0] 89)).heap.size) (Nat.le_refl _)) (hb3.mono hb2.size)
  clear hce hfr hb2 hb3
  obtain ⟨hce, hfr⟩ := bcell hb4
  go_wp2_with fail
  refine bodyPost_ret (v := .tuple #[wn (M.dg l), .int .i64 0]) (by simp [results, Tryz.results184, go_sem, hce]) rfl ⟨rfl, ?_⟩
  refine Below.setCell (Below.setCell (Below.setCell (Below.setCell (Below.trans ?_ (hb4.mono (by first | omega | (simp; omega) | simp))) (by first | omega | (simp; omega) | simp) _) (by first | omega | (simp; omega) | simp) _) (by first | omega | (simp; omega) | simp) _) (by first | omega | (simp; omega) | simp) _
  (repeat (first | exact Below.refl _ _ | refine Below.drew ?_ | refine Below.alloc ?_ (by first | omega | (simp; omega) | simp) _ | refine Below.setCell ?_ (by first | omega | (simp; omega) | simp) _))
end Go.Proofs.YtihiacbhdcahkaaGreatDoor
namespace Go.Proofs.YtihiacbhdcahkaaGreatDoor
open Go Go.RowKit

theorem of_any (n : Int) (w : World) :
    Calls Tryz.prog 80 #[.int .u64 n] w fun e w' => e = .returned (wd n 0 0 0) ∧ Below w.heap.size w w' := by
  go_enter Tryz.func80, Tryz.ntmps80
  go_wp2
  exact bodyPost_ret (v := wd n 0 0 0) (by simp [results, Tryz.results80, go_sem]) rfl ⟨rfl, (Below.refl _ _).alloc (Nat.le_refl _) _⟩

end Go.Proofs.YtihiacbhdcahkaaGreatDoor
