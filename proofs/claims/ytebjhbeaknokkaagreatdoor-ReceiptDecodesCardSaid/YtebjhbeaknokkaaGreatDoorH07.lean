/- The contract of word.Fixed: a number's 32 bytes. From the walks of word.Fixed and word.Unfixed to numbers and their bytes. Contracts of word.Bytes and word.Parse. Contracts of the word package's plain functions over this seat's translation. What '==' says of two words. The contract of word.Small. Small numbers as words. Contracts of num.Be, num.Unbe. In a seat where all of package word is called: N4 in the place of B1. The reference's Be, where no more of package word is called. The reference's items of layer 6: a number, a word, bytes, yes or no, a list. word.Parse, of any bytes. strings.Clone: the same bytes. The landed package field: what is read of an item's bytes. The landed package field: a word read of an item's bytes. The landed package field: GetNumber, GetWord, GetText, GetBool, GetAddr. The landed package field: GetAddr, GetText; how many there may be. -/
import Derived.Test.YtebjhbeaknokkaaGreatDoorF1g
import Derived.Laws.BytesArg
import Derived.Test.YtebjhbeaknokkaaGreatDoorW5g
import Derived.Test.YtebjhbeaknokkaaGreatDoorH01
import Derived.Laws.Bits64b
import Derived.Test.YtebjhbeaknokkaaGreatDoorSh
import Derived.Test.YtebjhbeaknokkaaGreatDoorH06
import Derived.Deep.RegionWith
import Derived.Lib.Hide
import Derived.Laws.StructEq
import Derived.Laws.Tables
import Derived.Laws.Cover2
import Derived.Test.YtebjhbeaknokkaaGreatDoorH05
import Derived.Laws.Rows
import Derived.Lib.BufferWrite
import Derived.Lib.UnsafeStr
import Derived.Laws.MakeOwn
namespace Go.Proofs.YtebjhbeaknokkaaGreatDoor
open Go Go.RowKit Go.Shelf
attribute [local go_sem] Oper.semAt_some

theorem wpIn_same {F : Fence} {n : Nat} {P : Program} {c : Code} {Q : Exit → Act → World → Prop} {a a' : Act} {w w' : World} (h : c.wpIn F n P (nrm fun b u => b = a' ∧ u = w') a w) (hQ : Q .normal a' w') : c.wpIn F n P Q a w :=
  wpIn_mono' h (fun _ _ ⟨h1, h2⟩ => h1 ▸ h2 ▸ hQ)

/-- The eight bytes of a part, the highest one first. -/
def be8 (v : Int) : List Int := [IntKind.u8.wrap (v / 2 ^ (56 : Int).toNat), IntKind.u8.wrap (v / 2 ^ (48 : Int).toNat), IntKind.u8.wrap (v / 2 ^ (40 : Int).toNat), IntKind.u8.wrap (v / 2 ^ (32 : Int).toNat), IntKind.u8.wrap (v / 2 ^ (24 : Int).toNat), IntKind.u8.wrap (v / 2 ^ (16 : Int).toNat), IntKind.u8.wrap (v / 2 ^ (8 : Int).toNat), IntKind.u8.wrap (v / 2 ^ (0 : Int).toNat)]
/-- What the bytes that have been put down are: n of them in the block behind the box. -/
structure FX (w W : World) (n : Nat) (bs : List Int) : Prop where
  box : W.cell? ⟨w.heap.size + 1 + 1, 0, none⟩ = some (.slice (some ⟨w.heap.size + 1, 0, none⟩) n 32)
  fbox : W.frozen? ⟨w.heap.size + 1 + 1, 0, none⟩ = false
  fr : ∀ j, j < 32 → W.frozen? ⟨w.heap.size + 1, j, none⟩ = false
  cs : ∀ j, j < n → W.cell? ⟨w.heap.size + 1, j, none⟩ = some (.int .u8 (bs.getD j 0))
  som : ∀ j, j < 32 → (W.cell? ⟨w.heap.size + 1, j, none⟩).isSome = true
  len : bs.length = n
  low : Below w.heap.size w W
  ge : w.heap.size + 4 ≤ W.heap.size

theorem fx_start {w W0 : World} {t1 t2 t3 : Nat} {cs1 cs3 : Array Value} (h : ((((w.alloc (Obj.cells cs1 t1)).alloc (Obj.cells #[.int .u8 0, .int .u8 0, .int .u8 0, .int .u8 0, .int .u8 0, .int .u8 0, .int .u8 0, .int .u8 0, .int .u8 0, .int .u8 0, .int .u8 0, .int .u8 0, .int .u8 0, .int .u8 0, .int .u8 0, .int .u8 0, .int .u8 0, .int .u8 0, .int .u8 0, .int .u8 0, .int .u8 0, .int .u8 0, .int .u8 0, .int .u8 0, .int .u8 0, .int .u8 0, .int .u8 0, .int .u8 0, .int .u8 0, .int .u8 0, .int .u8 0, .int .u8 0] t2)).alloc (Obj.cells #[.slice (some ⟨w.heap.size + 1, 0, none⟩) 0 32] t3)).alloc (Obj.cells cs3 t1)) = W0) : FX w W0 0 [] := by
  subst h
  refine ⟨by simp [go_sem], by simp [go_sem], fun j hj => by simp [go_sem], fun j hj => absurd hj (by simp), fun j hj => ?_, rfl, ?_, by simp⟩
  · have : j = 0 ∨ j = 1 ∨ j = 2 ∨ j = 3 ∨ j = 4 ∨ j = 5 ∨ j = 6 ∨ j = 7 ∨ j = 8 ∨ j = 9 ∨ j = 10 ∨ j = 11 ∨ j = 12 ∨ j = 13 ∨ j = 14 ∨ j = 15 ∨ j = 16 ∨ j = 17 ∨ j = 18 ∨ j = 19 ∨ j = 20 ∨ j = 21 ∨ j = 22 ∨ j = 23 ∨ j = 24 ∨ j = 25 ∨ j = 26 ∨ j = 27 ∨ j = 28 ∨ j = 29 ∨ j = 30 ∨ j = 31 := by omega
    rcases this with rfl | rfl | rfl | rfl | rfl | rfl | rfl | rfl | rfl | rfl | rfl | rfl | rfl | rfl | rfl | rfl | rfl | rfl | rfl | rfl | rfl | rfl | rfl | rfl | rfl | rfl | rfl | rfl | rfl | rfl | rfl | rfl <;> simp [go_sem]
  · (repeat (first | exact Below.refl _ _ | refine Below.drew ?_ | refine Below.alloc ?_ (by first | omega | (simp; omega) | simp) _ | refine Below.setCell ?_ (by first | omega | (simp; omega) | simp) _))

theorem fx_kept {w A B : World} {row : Option Nat} {n : Nat} {bs : List Int} (hf : FX w A n bs) (hg : A.grownBy B row) (hr : ∀ r, row = some r → w.heap.size + 4 ≤ r ∧ ∃ o : Obj, A.heap[r]? = some o ∧ o.isCells = false) : FX w B n bs := by
  have hr' : ∀ r, row = some r → ∃ o : Obj, A.heap[r]? = some o ∧ o.isCells = false := fun r e => (hr r e).2
  refine ⟨cell_kept hf.box hg hr', (frozen_kept hf.box hg hr').trans hf.fbox, fun j hj => ?_, fun j hj => cell_kept (hf.cs j hj) hg hr', fun j hj => ?_, hf.len, hf.low.grown hg hf.low.size (fun k e => by have := (hr k e).1; omega), ?_⟩
  · obtain ⟨u, hu⟩ := Option.isSome_iff_exists.1 (hf.som j hj)
    exact (frozen_kept hu hg hr').trans (hf.fr j hj)
  · obtain ⟨u, hu⟩ := Option.isSome_iff_exists.1 (hf.som j hj)
    rw [cell_kept hu hg hr']
    rfl
  · have := ((Below.refl 0 A).grown hg (by omega) (fun _ _ => Nat.zero_le _)).size
    have := hf.ge
    omega

/-- One byte more. -/
theorem fx_step {w W : World} {n : Nat} {bs : List Int} (b : Int) (hf : FX w W n bs) (hn : n < 32) :
    ∃ n1 W1, (((W.setCell ⟨w.heap.size + 1, n, none⟩ (.int .u8 b)).setCell ⟨w.heap.size + 1 + 1, 0, none⟩ (.slice (some ⟨w.heap.size + 1, 0, none⟩) (n + 1) 32)).alloc (.cells #[.int .u8 b] 5)).drew = W1 ∧ n + 1 = n1 ∧ FX w W1 n1 (bs ++ [b]) ∧ KeepsOthers W W1 ∧ KeepsB (w.heap.size + 1 + 1 + 1) W W1 := by
  obtain ⟨box, fbox, fr, cs, som, len, low, ge⟩ := hf
  refine ⟨_, _, rfl, rfl, ⟨?_, ?_, ?_, ?_, ?_, ?_, ?_, ?_⟩, ?_, ?_⟩
  · have h1 : w.heap.size + 1 + 1 < W.heap.size := by omega
    simp [go_sem, h1, box]
  · have h1 : w.heap.size + 1 + 1 < W.heap.size := by omega
    simp [go_sem, h1, fbox]
  · intro j hj
    have h1 : w.heap.size + 1 < W.heap.size := by omega
    simp [go_sem, h1, fr j hj]
  · intro j hj
    have h1 : w.heap.size + 1 < W.heap.size := by omega
    by_cases e : j = n
    · subst e
      have hs := som j (by omega)
      obtain ⟨u, hu⟩ := Option.isSome_iff_exists.1 hs
      have : (bs ++ [b]).getD j 0 = b := by rw [← len]; simp
      rw [this]
      simp [go_sem, h1, hu]
    · have hc := cs j (by omega)
      have : (bs ++ [b]).getD j 0 = bs.getD j 0 := by
        have : j < bs.length := by omega
        simp [List.getElem?_append_left this]
      rw [this]
      simp [go_sem, h1, hc]
  · intro j hj
    have h1 : w.heap.size + 1 < W.heap.size := by omega
    obtain ⟨u, hu⟩ := Option.isSome_iff_exists.1 (som j hj)
    by_cases e : j = n
    · subst e
      simp [go_sem, h1, hu]
    · simp [go_sem, h1, hu]
  · simp [len]
  · exact (((low.setCell (p := ⟨w.heap.size + 1, n, none⟩) (by simp) _).setCell (p := ⟨w.heap.size + 1 + 1, 0, none⟩) (by simp; omega) _).alloc (by simp; omega) _).drew
  · simp
    omega
  · exact (((KeepsOthers.setCell _ _ _).trans (KeepsOthers.setCell _ _ _)).trans (KeepsOthers.alloc _ _)).trans (KeepsOthers.drew _)
  · intro j
    have h1 : w.heap.size + 1 + 1 + 1 < W.heap.size := by omega
    simp [go_sem, h1]

theorem fx_own {α : Type} {w : World} {B : Nat} (hB : w.heap.size + 4 ≤ B) (f : List α → List Int) (g : List α → Nat) : OwnFrom B (fun pre W => FX w W (g pre) (f pre)) :=
  fun _ _ _ _ hs hg hr => fx_kept hs hg (fun r e => ⟨Nat.le_trans hB (hr r e).1, (hr r e).2⟩)
set_option maxRecDepth 100000 in
set_option maxHeartbeats 8000000 in
theorem fixed_in (a0 a1 a2 a3 : Int) (w : World) :
    CallsIn Fence.wide 4 Tryz.prog 120 #[wd a0 a1 a2 a3] w fun e W' => e = .returned (.string (strOfNums (be8 a3 ++ be8 a2 ++ be8 a1 ++ be8 a0))) ∧ Below w.heap.size w W' := by
  have hro : Fence.wide.round = none := rfl
  refine callsIn_of_wp_marks Tryz.func120 rfl trivial ?_ hro
  simp only [Tryz.ntmps120, List.size_toArray, List.length_cons, List.length_nil, Nat.reduceAdd, Nat.reduceSub, Array.replicate_succ, Array.replicate_zero, List.push_toArray, List.append_toArray, List.nil_append, List.cons_append]
  have hmk : ∀ w : World, (Instr.makeSlice 75 (.int .i64 0) (.int .i64 32)).run Tryz.prog w = .ok (.slice (some ⟨w.heap.size, 0, none⟩) 0 32) (w.alloc (.cells #[.int .u8 0, .int .u8 0, .int .u8 0, .int .u8 0, .int .u8 0, .int .u8 0, .int .u8 0, .int .u8 0, .int .u8 0, .int .u8 0, .int .u8 0, .int .u8 0, .int .u8 0, .int .u8 0, .int .u8 0, .int .u8 0, .int .u8 0, .int .u8 0, .int .u8 0, .int .u8 0, .int .u8 0, .int .u8 0, .int .u8 0, .int .u8 0, .int .u8 0, .int .u8 0, .int .u8 0, .int .u8 0, .int .u8 0, .int .u8 0, .int .u8 0, .int .u8 0] 5)) := fun _ => by kernel_rfl
  gi_wp2_with (refine ⟨trivial, ?_⟩; gi_at_call 198; refine (top_in _ _ trivial rfl _ _ _ _ _).mono ?_; rintro e w' ⟨rfl, rfl⟩)
  generalize hW0 : ((((w.alloc (Obj.cells #[.int .u64 a0, .int .u64 a1, .int .u64 a2, .int .u64 a3] 88)).alloc (Obj.cells #[.int .u8 0, .int .u8 0, .int .u8 0, .int .u8 0, .int .u8 0, .int .u8 0, .int .u8 0, .int .u8 0, .int .u8 0, .int .u8 0, .int .u8 0, .int .u8 0, .int .u8 0, .int .u8 0, .int .u8 0, .int .u8 0, .int .u8 0, .int .u8 0, .int .u8 0, .int .u8 0, .int .u8 0, .int .u8 0, .int .u8 0, .int .u8 0, .int .u8 0, .int .u8 0, .int .u8 0, .int .u8 0, .int .u8 0, .int .u8 0, .int .u8 0, .int .u8 0] 5)).alloc (Obj.cells #[.slice (some ⟨w.heap.size + 1, 0, none⟩) 0 32] 75)).alloc (Obj.cells #[.int .u64 a0, .int .u64 a1, .int .u64 a2, .int .u64 a3] 88)) = W0
  have hsz : W0.heap.size = w.heap.size + 4 := by rw [← hW0]; simp
  have k0 : W0.cell? ⟨w.heap.size + 1 + 1 + 1, 0, none⟩ = some (.int .u64 a0) := by rw [← hW0]; simp [go_sem]
  have k1 : W0.cell? ⟨w.heap.size + 1 + 1 + 1, 1, none⟩ = some (.int .u64 a1) := by rw [← hW0]; simp [go_sem]
  have k2 : W0.cell? ⟨w.heap.size + 1 + 1 + 1, 2, none⟩ = some (.int .u64 a2) := by rw [← hW0]; simp [go_sem]
  have k3 : W0.cell? ⟨w.heap.size + 1 + 1 + 1, 3, none⟩ = some (.int .u64 a3) := by rw [← hW0]; simp [go_sem]
  have hF0 : FX w W0 0 [] := fx_start hW0
  clear hW0 hmk
  refine wpIn_rangeFunc_ownF hro (by omega) (gf := 260) (lb := #[.pointer (some ⟨w.heap.size + 1 + 1 + 1, 0, none⟩)]) rfl trivial (enters_of Tryz.func260 (by kernel_rfl) rfl)
    (top_stops Fence.wide 3 trivial rfl (by omega) (w.heap.size + 1 + 1 + 1) a0 a1 a2 a3 W0 (by omega) k0 k1 k2 k3) keepsB_t (keepsB_b (by omega)) (Below.refl _ _) (fun _ => rfl)
    (fun pre W => FX w W (8 * pre.length) (pre.flatMap (fun x => be8 (at4 a0 a1 a2 a3 x))))
    (fun _ _ _ => False)
    (fx_own (by omega) _ _)
    (fun _ _ _ _ _ hs _ _ => hs)
    hF0
    (fun x => { tmps := #[wd a0 a1 a2 a3, .pointer (some ⟨w.heap.size, 0, none⟩), .string ⟨#[]⟩, .pointer (some ⟨w.heap.size + 1 + 1, 0, none⟩), undef, .int .u64 (at4 a0 a1 a2 a3 x), undef, .slice (some ⟨w.heap.size + 1, 0, none⟩) 0 32, wd a0 a1 a2 a3, .func (.func 260) #[] #[.pointer (some ⟨w.heap.size + 1 + 1 + 1, 0, none⟩)], .int .i64 (x.val : Int), .int .u64 (at4 a0 a1 a2 a3 x), undef, undef, undef, undef, undef, undef, undef, undef, undef, undef, undef, undef, undef, undef, undef], defers := [] }) ?assign ?body ?done ?stop
  case assign =>
    intro l x W K hK
    gi_wp2
    exact hK
  case body =>
    rintro l pre x Ws hFs hlen
    clear k0 k1 k2 k3 hF0 hsz
    have HP : Hid ((pre ++ [x]).flatMap (fun x => be8 (at4 a0 a1 a2 a3 x)) = pre.flatMap (fun x => be8 (at4 a0 a1 a2 a3 x)) ++ be8 (at4 a0 a1 a2 a3 x)) := by
      show _ = _
      simp
    generalize hv : at4 a0 a1 a2 a3 x = v at HP ⊢
    clear hv
    generalize hbs : pre.flatMap (fun x => be8 (at4 a0 a1 a2 a3 x)) = bs at hFs HP
    clear hbs
    obtain ⟨n0, hn0'⟩ : ∃ n0, 8 * pre.length = n0 := ⟨_, rfl⟩
    rw [hn0'] at hFs
    have HN := Lib.hid hn0'
    have hn0 : n0 + 8 ≤ 32 := by omega
    clear hn0' hlen
    obtain ⟨W0, e0⟩ : ∃ W0, Ws = W0 := ⟨_, rfl⟩
    have hO : KeepsOthers Ws W0 := e0 ▸ KeepsOthers.refl _
    have hK : KeepsB (w.heap.size + 1 + 1 + 1) Ws W0 := e0 ▸ fun _ => rfl
    have hF0 : FX w W0 n0 bs := e0 ▸ hFs
    rw [e0]
    gi_wp2
    refine wpIn_loop_rounds 9 ?_
    rw [roundsIn_succ]
    gi_wp2
    obtain ⟨u, hu⟩ := Option.isSome_iff_exists.1 (hF0.som n0 (by omega))
    refine wpIn_same (fixed_reg l n0 w.heap.size v 0 7 56 (v / 2 ^ (56 : Int).toNat) u W0 _ _ _ _ _ _ _ _ _ _ _ _ _ _ _ _ _ _ _ _ _ _ _ _ _ (by kernel_rfl) hF0.box hF0.fbox hu (hF0.fr n0 (by omega)) (by omega) (by have := hF0.ge; omega) (by have := hF0.ge; omega) (by decide) (by decide) (by omega) (by omega) rfl) ?_
    clear hu u
    obtain ⟨n1, W1, hW, hm, hF1, hO1, hK1⟩ := fx_step (IntKind.u8.wrap (v / 2 ^ (56 : Int).toNat)) hF0 (by omega)
    rw [hW, hm]
    replace hO := hO.trans hO1
    replace hK := keepsB_t hK hK1
    have hn1 : n1 + 7 ≤ 32 := by omega
    have HM1 := Lib.hid hm
    clear hW hO1 hK1 hF0 hn0 hm
    gi_wp2
    rw [roundsIn_succ]
    gi_wp2
    obtain ⟨u, hu⟩ := Option.isSome_iff_exists.1 (hF1.som n1 (by omega))
    refine wpIn_same (fixed_reg l n1 w.heap.size v 1 6 48 (v / 2 ^ (48 : Int).toNat) u W1 _ _ _ _ _ _ _ _ _ _ _ _ _ _ _ _ _ _ _ _ _ _ _ _ _ (by kernel_rfl) hF1.box hF1.fbox hu (hF1.fr n1 (by omega)) (by omega) (by have := hF1.ge; omega) (by have := hF1.ge; omega) (by decide) (by decide) (by omega) (by omega) rfl) ?_
    clear hu u
    obtain ⟨n2, W2, hW, hm, hF2, hO1, hK1⟩ := fx_step (IntKind.u8.wrap (v / 2 ^ (48 : Int).toNat)) hF1 (by omega)
    rw [hW, hm]
    replace hO := hO.trans hO1
    replace hK := keepsB_t hK hK1
    have hn2 : n2 + 6 ≤ 32 := by omega
    have HM2 := Lib.hid hm
    clear hW hO1 hK1 hF1 hn1 hm
    gi_wp2
    rw [roundsIn_succ]
    gi_wp2
    obtain ⟨u, hu⟩ := Option.isSome_iff_exists.1 (hF2.som n2 (by omega))
    refine wpIn_same (fixed_reg l n2 w.heap.size v 2 5 40 (v / 2 ^ (40 : Int).toNat) u W2 _ _ _ _ _ _ _ _ _ _ _ _ _ _ _ _ _ _ _ _ _ _ _ _ _ (by kernel_rfl) hF2.box hF2.fbox hu (hF2.fr n2 (by omega)) (by omega) (by have := hF2.ge; omega) (by have := hF2.ge; omega) (by decide) (by decide) (by omega) (by omega) rfl) ?_
    clear hu u
    obtain ⟨n3, W3, hW, hm, hF3, hO1, hK1⟩ := fx_step (IntKind.u8.wrap (v / 2 ^ (40 : Int).toNat)) hF2 (by omega)
    rw [hW, hm]
    replace hO := hO.trans hO1
    replace hK := keepsB_t hK hK1
    have hn3 : n3 + 5 ≤ 32 := by omega
    have HM3 := Lib.hid hm
    clear hW hO1 hK1 hF2 hn2 hm
    gi_wp2
    rw [roundsIn_succ]
    gi_wp2
    obtain ⟨u, hu⟩ := Option.isSome_iff_exists.1 (hF3.som n3 (by omega))
    refine wpIn_same (fixed_reg l n3 w.heap.size v 3 4 32 (v / 2 ^ (32 : Int).toNat) u W3 _ _ _ _ _ _ _ _ _ _ _ _ _ _ _ _ _ _ _ _ _ _ _ _ _ (by kernel_rfl) hF3.box hF3.fbox hu (hF3.fr n3 (by omega)) (by omega) (by have := hF3.ge; omega) (by have := hF3.ge; omega) (by decide) (by decide) (by omega) (by omega) rfl) ?_
    clear hu u
    obtain ⟨n4, W4, hW, hm, hF4, hO1, hK1⟩ := fx_step (IntKind.u8.wrap (v / 2 ^ (32 : Int).toNat)) hF3 (by omega)
    rw [hW, hm]
    replace hO := hO.trans hO1
    replace hK := keepsB_t hK hK1
    have hn4 : n4 + 4 ≤ 32 := by omega
    have HM4 := Lib.hid hm
    clear hW hO1 hK1 hF3 hn3 hm
    gi_wp2
    rw [roundsIn_succ]
    gi_wp2
    obtain ⟨u, hu⟩ := Option.isSome_iff_exists.1 (hF4.som n4 (by omega))
    refine wpIn_same (fixed_reg l n4 w.heap.size v 4 3 24 (v / 2 ^ (24 : Int).toNat) u W4 _ _ _ _ _ _ _ _ _ _ _ _ _ _ _ _ _ _ _ _ _ _ _ _ _ (by kernel_rfl) hF4.box hF4.fbox hu (hF4.fr n4 (by omega)) (by omega) (by have := hF4.ge; omega) (by have := hF4.ge; omega) (by decide) (by decide) (by omega) (by omega) rfl) ?_
    clear hu u
    obtain ⟨n5, W5, hW, hm, hF5, hO1, hK1⟩ := fx_step (IntKind.u8.wrap (v / 2 ^ (24 : Int).toNat)) hF4 (by omega)
    rw [hW, hm]
    replace hO := hO.trans hO1
    replace hK := keepsB_t hK hK1
    have hn5 : n5 + 3 ≤ 32 := by omega
    have HM5 := Lib.hid hm
    clear hW hO1 hK1 hF4 hn4 hm
    gi_wp2
    rw [roundsIn_succ]
    gi_wp2
    obtain ⟨u, hu⟩ := Option.isSome_iff_exists.1 (hF5.som n5 (by omega))
    refine wpIn_same (fixed_reg l n5 w.heap.size v 5 2 16 (v / 2 ^ (16 : Int).toNat) u W5 _ _ _ _ _ _ _ _ _ _ _ _ _ _ _ _ _ _ _ _ _ _ _ _ _ (by kernel_rfl) hF5.box hF5.fbox hu (hF5.fr n5 (by omega)) (by omega) (by have := hF5.ge; omega) (by have := hF5.ge; omega) (by decide) (by decide) (by omega) (by omega) rfl) ?_
    clear hu u
    obtain ⟨n6, W6, hW, hm, hF6, hO1, hK1⟩ := fx_step (IntKind.u8.wrap (v / 2 ^ (16 : Int).toNat)) hF5 (by omega)
    rw [hW, hm]
    replace hO := hO.trans hO1
    replace hK := keepsB_t hK hK1
    have hn6 : n6 + 2 ≤ 32 := by omega
    have HM6 := Lib.hid hm
    clear hW hO1 hK1 hF5 hn5 hm
    gi_wp2
    rw [roundsIn_succ]
    gi_wp2
    obtain ⟨u, hu⟩ := Option.isSome_iff_exists.1 (hF6.som n6 (by omega))
    refine wpIn_same (fixed_reg l n6 w.heap.size v 6 1 8 (v / 2 ^ (8 : Int).toNat) u W6 _ _ _ _ _ _ _ _ _ _ _ _ _ _ _ _ _ _ _ _ _ _ _ _ _ (by kernel_rfl) hF6.box hF6.fbox hu (hF6.fr n6 (by omega)) (by omega) (by have := hF6.ge; omega) (by have := hF6.ge; omega) (by decide) (by decide) (by omega) (by omega) rfl) ?_
    clear hu u
    obtain ⟨n7, W7, hW, hm, hF7, hO1, hK1⟩ := fx_step (IntKind.u8.wrap (v / 2 ^ (8 : Int).toNat)) hF6 (by omega)
    rw [hW, hm]
    replace hO := hO.trans hO1
    replace hK := keepsB_t hK hK1
    have hn7 : n7 + 1 ≤ 32 := by omega
    have HM7 := Lib.hid hm
    clear hW hO1 hK1 hF6 hn6 hm
    gi_wp2
    rw [roundsIn_succ]
    gi_wp2
    obtain ⟨u, hu⟩ := Option.isSome_iff_exists.1 (hF7.som n7 (by omega))
    refine wpIn_same (fixed_reg l n7 w.heap.size v 7 0 0 (v / 2 ^ (0 : Int).toNat) u W7 _ _ _ _ _ _ _ _ _ _ _ _ _ _ _ _ _ _ _ _ _ _ _ _ _ (by kernel_rfl) hF7.box hF7.fbox hu (hF7.fr n7 (by omega)) (by omega) (by have := hF7.ge; omega) (by have := hF7.ge; omega) (by decide) (by decide) (by omega) (by omega) rfl) ?_
    clear hu u
    obtain ⟨n8, W8, hW, hm, hF8, hO1, hK1⟩ := fx_step (IntKind.u8.wrap (v / 2 ^ (0 : Int).toNat)) hF7 (by omega)
    rw [hW, hm]
    replace hO := hO.trans hO1
    replace hK := keepsB_t hK hK1
    have hn8 : n8 + 0 ≤ 32 := by omega
    have HM8 := Lib.hid hm
    clear hW hO1 hK1 hF7 hn7 hm
    gi_wp2
    rw [roundsIn_succ]
    gi_wp2
    subst e0
    have m0 := HN.out
    have m1 := HM1.out
    have m2 := HM2.out
    have m3 := HM3.out
    have m4 := HM4.out
    have m5 := HM5.out
    have m6 := HM6.out
    have m7 := HM7.out
    have m8 := HM8.out
    have e1 : 8 * (pre ++ [x]).length = n8 := by simp only [List.length_append, List.length_cons, List.length_nil]; omega
    have e2 : bs ++ be8 v = ((((((((bs ++ [IntKind.u8.wrap (v / 2 ^ (56 : Int).toNat)]) ++ [IntKind.u8.wrap (v / 2 ^ (48 : Int).toNat)]) ++ [IntKind.u8.wrap (v / 2 ^ (40 : Int).toNat)]) ++ [IntKind.u8.wrap (v / 2 ^ (32 : Int).toNat)]) ++ [IntKind.u8.wrap (v / 2 ^ (24 : Int).toNat)]) ++ [IntKind.u8.wrap (v / 2 ^ (16 : Int).toNat)]) ++ [IntKind.u8.wrap (v / 2 ^ (8 : Int).toNat)]) ++ [IntKind.u8.wrap (v / 2 ^ (0 : Int).toNat)]) := by simp only [be8, List.append_assoc, List.cons_append, List.nil_append]
    refine ⟨hO, hK, ?_⟩
    show FX w W8 (8 * (pre ++ [x]).length) ((pre ++ [x]).flatMap (fun x => be8 (at4 a0 a1 a2 a3 x)))
    rw [e1, HP.out, e2]
    exact hF8
  case done =>
    rintro D ys W hD rfl hF hK
    have hr := run_convert_bytes_arg W 75 5 Tryz.underlying75 Tryz.underlying5 (w.heap.size + 1) 0 32 32 _ hF.len (fun i hi => by rw [Nat.zero_add]; exact hF.cs i hi) 9 Tryz.underlying9
    have hbox := hF.box
    gi_wp2
    refine ⟨by simp, .inl ⟨_, _, rfl, run_takeDeferred hK, ?_⟩⟩
    exact ⟨_, results_tmp rfl _ _ _, by rw [List.append_assoc, List.append_assoc]; rfl, hF.low.trans (belowK_b (w := w) (Nat.le_refl _) W D _ _ (by omega) hK rfl rfl)⟩
  case stop =>
    rintro D c pre W _ _ h _
    exact h.elim
end Go.Proofs.YtebjhbeaknokkaaGreatDoor
namespace Go.Proofs.YtebjhbeaknokkaaGreatDoor
open Go Go.RowKit

theorem wrap8_nat (n : Nat) : IntKind.u8.wrap (n : Int) = ((n % 256 : Nat) : Int) := by
  show (n : Int) % (2 ^ 8 : Int) = _
  rfl

theorem byte_of (n k : Nat) : UInt8.ofNat (IntKind.u8.wrap ((n : Int) / ((k : Nat) : Int))).toNat = UInt8.ofNat (n / k % 256) := by
  rw [← Int.natCast_ediv, wrap8_nat, Int.toNat_natCast]

theorem be8_bytes {v : Int} (h : 0 ≤ v) : (be8 v).map (fun n => UInt8.ofNat n.toNat) = M.be 8 v.toNat := by
  obtain ⟨n, rfl⟩ := Int.eq_ofNat_of_zero_le h
  rw [Int.toNat_natCast, M.be8_eq]
  simp only [be8, List.map_cons, List.map_nil]
  rw [show (2 : Int) ^ (56 : Int).toNat = ((72057594037927936 : Nat) : Int) from rfl, show (2 : Int) ^ (48 : Int).toNat = ((281474976710656 : Nat) : Int) from rfl, show (2 : Int) ^ (40 : Int).toNat = ((1099511627776 : Nat) : Int) from rfl, show (2 : Int) ^ (32 : Int).toNat = ((4294967296 : Nat) : Int) from rfl, show (2 : Int) ^ (24 : Int).toNat = ((16777216 : Nat) : Int) from rfl, show (2 : Int) ^ (16 : Int).toNat = ((65536 : Nat) : Int) from rfl, show (2 : Int) ^ (8 : Int).toNat = ((256 : Nat) : Int) from rfl, show (2 : Int) ^ (0 : Int).toNat = ((1 : Nat) : Int) from rfl]
  rw [byte_of, byte_of, byte_of, byte_of, byte_of, byte_of, byte_of, byte_of, Nat.div_one]

theorem fixed_any (N : Nat) (w : World) (hN : M.In N) :
    Calls Tryz.prog 120 #[wn N] w fun e w' => e = .returned (.string ⟨(M.f32 N).toArray⟩) ∧ Below w.heap.size w w' := by
  have := callsIn_wide.1 (fixed_in (M.pt 0 N) (M.pt 1 N) (M.pt 2 N) (M.pt 3 N) w)
  have e : strOfNums (be8 (M.pt 3 N) ++ be8 (M.pt 2 N) ++ be8 (M.pt 1 N) ++ be8 (M.pt 0 N)) = ⟨(M.f32 N).toArray⟩ := by
    unfold strOfNums
    rw [List.map_append, List.map_append, List.map_append, be8_bytes (M.pt_nonneg _ _), be8_bytes (M.pt_nonneg _ _), be8_bytes (M.pt_nonneg _ _), be8_bytes (M.pt_nonneg _ _), ← M.f32_parts hN]
  rw [e] at this
  exact this

theorem st8_nat (n : Nat) (c : UInt8) (h : n < 72057594037927936) : st8 n c = ((n * 256 + c.toNat : Nat) : Int) := by
  have hc := c.toNat_lt
  unfold st8
  have e1 : IntKind.u64.wrap ((n : Int) * 256) = ((n * 256 : Nat) : Int) := by rw [IntKind.wrap_u64]; omega
  have e2 : IntKind.u64.wrap (c.toNat : Int) = ((c.toNat : Nat) : Int) := by rw [IntKind.wrap_u64]; omega
  rw [e1, e2, bits_or_u64_nat _ _ (by omega) (by omega)]
  have := Nat.two_pow_add_eq_or_of_lt (i := 8) (b := c.toNat) (by omega) n
  rw [Nat.mul_comm n 256]
  exact congrArg _ this.symm

theorem st8_dg (l : List UInt8) (c : UInt8) (h : l.length ≤ 7) : st8 (M.dg l : Nat) c = ((M.dg (l ++ [c]) : Nat) : Int) := by
  rw [M.dg_snoc]
  refine st8_nat _ _ (Nat.lt_of_lt_of_le (M.dg_lt l) ?_)
  exact Nat.pow_le_pow_right (n := 256) (by omega) h

theorem eight (c0 c1 c2 c3 c4 c5 c6 c7 : UInt8) : st8 (st8 (st8 (st8 (st8 (st8 (st8 (st8 0 c0) c1) c2) c3) c4) c5) c6) c7 = ((M.dg [c0, c1, c2, c3, c4, c5, c6, c7] : Nat) : Int) := by
  have e0 : st8 0 c0 = ((M.dg [c0] : Nat) : Int) := st8_dg [] c0 (by simp)
  rw [e0, st8_dg [c0] c1 (by simp), List.singleton_append, st8_dg [c0, c1] c2 (by simp)]
  simp only [List.cons_append, List.nil_append]
  rw [st8_dg [c0, c1, c2] c3 (by simp)]
  simp only [List.cons_append, List.nil_append]
  rw [st8_dg [c0, c1, c2, c3] c4 (by simp)]
  simp only [List.cons_append, List.nil_append]
  rw [st8_dg [c0, c1, c2, c3, c4] c5 (by simp)]
  simp only [List.cons_append, List.nil_append]
  rw [st8_dg [c0, c1, c2, c3, c4, c5] c6 (by simp)]
  simp only [List.cons_append, List.nil_append]
  rw [st8_dg [c0, c1, c2, c3, c4, c5, c6] c7 (by simp)]
  simp only [List.cons_append, List.nil_append]

theorem list32 (l : List UInt8) (h : l.length = 32) : ∃ x0 x1 x2 x3 x4 x5 x6 x7 x8 x9 x10 x11 x12 x13 x14 x15 x16 x17 x18 x19 x20 x21 x22 x23 x24 x25 x26 x27 x28 x29 x30 x31, l = [x0, x1, x2, x3, x4, x5, x6, x7, x8, x9, x10, x11, x12, x13, x14, x15, x16, x17, x18, x19, x20, x21, x22, x23, x24, x25, x26, x27, x28, x29, x30, x31] :=
  match l, h with
  | [x0, x1, x2, x3, x4, x5, x6, x7, x8, x9, x10, x11, x12, x13, x14, x15, x16, x17, x18, x19, x20, x21, x22, x23, x24, x25, x26, x27, x28, x29, x30, x31], _ => ⟨x0, x1, x2, x3, x4, x5, x6, x7, x8, x9, x10, x11, x12, x13, x14, x15, x16, x17, x18, x19, x20, x21, x22, x23, x24, x25, x26, x27, x28, x29, x30, x31, rfl⟩

theorem parts32 (x0 x1 x2 x3 x4 x5 x6 x7 x8 x9 x10 x11 x12 x13 x14 x15 x16 x17 x18 x19 x20 x21 x22 x23 x24 x25 x26 x27 x28 x29 x30 x31 : UInt8) : M.pt 0 (M.dg [x0, x1, x2, x3, x4, x5, x6, x7, x8, x9, x10, x11, x12, x13, x14, x15, x16, x17, x18, x19, x20, x21, x22, x23, x24, x25, x26, x27, x28, x29, x30, x31]) = ((M.dg [x24, x25, x26, x27, x28, x29, x30, x31] : Nat) : Int) ∧ M.pt 1 (M.dg [x0, x1, x2, x3, x4, x5, x6, x7, x8, x9, x10, x11, x12, x13, x14, x15, x16, x17, x18, x19, x20, x21, x22, x23, x24, x25, x26, x27, x28, x29, x30, x31]) = ((M.dg [x16, x17, x18, x19, x20, x21, x22, x23] : Nat) : Int) ∧ M.pt 2 (M.dg [x0, x1, x2, x3, x4, x5, x6, x7, x8, x9, x10, x11, x12, x13, x14, x15, x16, x17, x18, x19, x20, x21, x22, x23, x24, x25, x26, x27, x28, x29, x30, x31]) = ((M.dg [x8, x9, x10, x11, x12, x13, x14, x15] : Nat) : Int) ∧ M.pt 3 (M.dg [x0, x1, x2, x3, x4, x5, x6, x7, x8, x9, x10, x11, x12, x13, x14, x15, x16, x17, x18, x19, x20, x21, x22, x23, x24, x25, x26, x27, x28, x29, x30, x31]) = ((M.dg [x0, x1, x2, x3, x4, x5, x6, x7] : Nat) : Int) := by
  have e : M.dg [x0, x1, x2, x3, x4, x5, x6, x7, x8, x9, x10, x11, x12, x13, x14, x15, x16, x17, x18, x19, x20, x21, x22, x23, x24, x25, x26, x27, x28, x29, x30, x31] = ((M.dg [x0, x1, x2, x3, x4, x5, x6, x7] * 18446744073709551616 + M.dg [x8, x9, x10, x11, x12, x13, x14, x15]) * 18446744073709551616 + M.dg [x16, x17, x18, x19, x20, x21, x22, x23]) * 18446744073709551616 + M.dg [x24, x25, x26, x27, x28, x29, x30, x31] := by
    rw [← M.dg_app8 (r := [x8, x9, x10, x11, x12, x13, x14, x15]) rfl [x0, x1, x2, x3, x4, x5, x6, x7], ← M.dg_app8 (r := [x16, x17, x18, x19, x20, x21, x22, x23]) rfl, ← M.dg_app8 (r := [x24, x25, x26, x27, x28, x29, x30, x31]) rfl]
    simp only [List.cons_append, List.nil_append]
  have l0 := M.dg_8 (l := [x24, x25, x26, x27, x28, x29, x30, x31]) rfl
  have l1 := M.dg_8 (l := [x16, x17, x18, x19, x20, x21, x22, x23]) rfl
  have l2 := M.dg_8 (l := [x8, x9, x10, x11, x12, x13, x14, x15]) rfl
  have l3 := M.dg_8 (l := [x0, x1, x2, x3, x4, x5, x6, x7]) rfl
  generalize M.dg [x24, x25, x26, x27, x28, x29, x30, x31] = g0 at *
  generalize M.dg [x16, x17, x18, x19, x20, x21, x22, x23] = g1 at *
  generalize M.dg [x8, x9, x10, x11, x12, x13, x14, x15] = g2 at *
  generalize M.dg [x0, x1, x2, x3, x4, x5, x6, x7] = g3 at *
  refine M.parts (by omega) (by omega) (by omega) (by omega) (by omega) (by omega) (by omega) (by omega) ?_
  rw [e]
  omega

theorem unfixed_any (l : List UInt8) (w : World) (h : l.length = 32) :
    Calls Tryz.prog 251 #[.string ⟨l.toArray⟩] w fun e w' => e = .returned (.tuple #[wn (M.dg l), .int .i64 0]) ∧ Below w.heap.size w w' := by
  obtain ⟨x0, x1, x2, x3, x4, x5, x6, x7, x8, x9, x10, x11, x12, x13, x14, x15, x16, x17, x18, x19, x20, x21, x22, x23, x24, x25, x26, x27, x28, x29, x30, x31, rfl⟩ := list32 l h
  obtain ⟨p0, p1, p2, p3⟩ := parts32 x0 x1 x2 x3 x4 x5 x6 x7 x8 x9 x10 x11 x12 x13 x14 x15 x16 x17 x18 x19 x20 x21 x22 x23 x24 x25 x26 x27 x28 x29 x30 x31
  have := unfixed_core ⟨#[x0, x1, x2, x3, x4, x5, x6, x7, x8, x9, x10, x11, x12, x13, x14, x15, x16, x17, x18, x19, x20, x21, x22, x23, x24, x25, x26, x27, x28, x29, x30, x31]⟩ w _ _ _ _ rfl (fun _ _ => rfl) (fun c => rfl) (eight x24 x25 x26 x27 x28 x29 x30 x31) (eight x16 x17 x18 x19 x20 x21 x22 x23) (eight x8 x9 x10 x11 x12 x13 x14 x15) (eight x0 x1 x2 x3 x4 x5 x6 x7)
  rw [← p0, ← p1, ← p2, ← p3] at this
  exact this

end Go.Proofs.YtebjhbeaknokkaaGreatDoor
namespace Go.Proofs.YtebjhbeaknokkaaGreatDoor
open Go Go.RowKit Go.Shelf

theorem trimLeft_any (l : List UInt8) (w : World) :
    Calls Tryz.prog 119 #[.string ⟨l.toArray⟩, .string ⟨#[0]⟩] w fun e w' => e = .returned (.string ⟨(M.tr l).toArray⟩) ∧ w = w' :=
  (Any.strings_TrimLeft_one lays161 ⟨l.toArray⟩ 0 (by decide) w).mono fun _ _ ⟨h1, h2⟩ => ⟨h1, h2.symm⟩

theorem repeat_any (c : Nat) (w : World) (h : c ≤ 32) :
    Calls Tryz.prog 252 #[.string ⟨#[0]⟩, .int .i64 c] w fun e w' => e = .returned (.string ⟨(List.replicate c (0 : UInt8)).toArray⟩) ∧ Below w.heap.size w w' := by
  have e : Lib.repeatL (⟨#[0]⟩ : ByteArray).data.toList c = List.replicate c (0 : UInt8) := by
    have := Lib.repeatL_replicate 0 1 c
    rw [Nat.mul_one] at this
    exact this
  have := Any.strings_Repeat lays105 Builder_Extra_105 ⟨#[0]⟩ c w (by omega) (by show 1 * c ≤ _; omega)
  rw [e] at this
  exact this

theorem prefix_any (l : List UInt8) (b : Bool) (w : World) (h : Lib.hasPrefix l [0] = b) :
    Calls Tryz.prog 250 #[.string ⟨l.toArray⟩, .string ⟨#[0]⟩] w fun e w' => e = .returned (.bool b) ∧ w = w' :=
  (Any.strings_HasPrefix lays99 ⟨l.toArray⟩ ⟨#[0]⟩ w).mono fun _ _ ⟨h1, h2⟩ => ⟨h1.trans (congrArg (fun b => Ending.returned (.bool b)) h), h2.symm⟩

theorem bytes_any (N : Nat) (w : World) (hN : M.In N) :
    Calls Tryz.prog 76 #[wn N] w fun e w' => e = .returned (.string ⟨(M.tr (M.f32 N)).toArray⟩) ∧ Below w.heap.size w w' := by
  go_enter Tryz.func76, Tryz.ntmps76
  go_wp2_with fail
  refine (fixed_any N _ hN).mono ?_
  rintro e w1 ⟨rfl, hb⟩
  go_wp2_with fail
  refine (trimLeft_any (M.f32 N) _).mono ?_
  rintro e w2 ⟨rfl, rfl⟩
  go_wp2_with fail
  go_ret
  refine ⟨rfl, Below.trans ?_ (hb.mono (by first | omega | (simp; omega) | simp))⟩
  (repeat (first | exact Below.refl _ _ | refine Below.drew ?_ | refine Below.alloc ?_ (by first | omega | (simp; omega) | simp) _ | refine Below.setCell ?_ (by first | omega | (simp; omega) | simp) _))

theorem parse_spare (l : List UInt8) (w : World) (h : l.length ≤ 32) (hp : Hid (Lib.hasPrefix l [0] = true)) :
    Calls Tryz.prog 181 #[.string ⟨l.toArray⟩] w fun e w' => e = .returned (.tuple #[wd 0 0 0 0, .int .i64 8]) ∧ Below w.heap.size w w' := by
  go_enter Tryz.func181, Tryz.ntmps181
  go_wp2_with fail
  refine (prefix_any l true _ hp.out).mono ?_
  rintro e w1 ⟨rfl, rfl⟩
  go_wp2_with fail
  refine bodyPost_ret (v := .tuple #[wd 0 0 0 0, .int .i64 8]) (by simp [results, Tryz.results181, go_sem]) rfl ⟨rfl, ?_⟩
  (repeat (first | exact Below.refl _ _ | refine Below.drew ?_ | refine Below.alloc ?_ (by first | omega | (simp; omega) | simp) _ | refine Below.setCell ?_ (by first | omega | (simp; omega) | simp) _))

theorem parse_ok (l : List UInt8) (w : World) (h : l.length ≤ 32) (hp : Hid (Lib.hasPrefix l [0] = false)) :
    Calls Tryz.prog 181 #[.string ⟨l.toArray⟩] w fun e w' => e = .returned (.tuple #[wn (M.dg l), .int .i64 0]) ∧ Below w.heap.size w w' := by
  go_enter Tryz.func181, Tryz.ntmps181
  go_wp2_with fail
  refine (prefix_any l false _ hp.out).mono ?_
  rintro e w1 ⟨rfl, rfl⟩
  go_wp2_with fail
  rw [show (32 : Int) - (l.length : Int) = ((32 - l.length : Nat) : Int) from by omega]
  refine (repeat_any (32 - l.length) _ (by omega)).mono ?_
  rintro e w2 ⟨rfl, hb2⟩
  obtain ⟨hce, hfr⟩ := bcell hb2
  generalize hz : List.replicate (32 - l.length) (0 : UInt8) = zs
  have hz1 : zs.length ≤ 32 := by rw [← hz]; simp
  have hno : ¬ 9223372036854775807 < zs.length + l.length := by omega
  have HZ := Lib.hid hz
  clear hz
  go_wp2_with fail
  rw [cat_eq]
  refine (unfixed_any (zs ++ l) _ (by rw [← HZ.out]; simp; omega)).mono ?_
  rintro e w3 ⟨rfl, hb3⟩
  rw [show M.dg (zs ++ l) = M.dg l from by rw [← HZ.out]; exact M.dg_zeros _ _]
  have hb4 := Below.trans (hb2.mono (B' := (w.alloc (Obj.cells #[.int .u64 0, .int .u64 0, .int .u64 0, .int .u64 0] 88)).heap.size) (Nat.le_refl _)) (hb3.mono hb2.size)
  clear hce hfr hb2 hb3
  obtain ⟨hce, hfr⟩ := bcell hb4
  go_wp2_with fail
  refine bodyPost_ret (v := .tuple #[wn (M.dg l), .int .i64 0]) (by simp [results, Tryz.results181, go_sem, hce]) rfl ⟨rfl, ?_⟩
  refine Below.setCell (Below.setCell (Below.setCell (Below.setCell (Below.trans ?_ (hb4.mono (by first | omega | (simp; omega) | simp))) (by first | omega | (simp; omega) | simp) _) (by first | omega | (simp; omega) | simp) _) (by first | omega | (simp; omega) | simp) _) (by first | omega | (simp; omega) | simp) _
  (repeat (first | exact Below.refl _ _ | refine Below.drew ?_ | refine Below.alloc ?_ (by first | omega | (simp; omega) | simp) _ | refine Below.setCell ?_ (by first | omega | (simp; omega) | simp) _))
end Go.Proofs.YtebjhbeaknokkaaGreatDoor
namespace Go.Proofs.YtebjhbeaknokkaaGreatDoor
open Go Go.RowKit

theorem of_any (n : Int) (w : World) :
    Calls Tryz.prog 77 #[.int .u64 n] w fun e w' => e = .returned (wd n 0 0 0) ∧ Below w.heap.size w w' := by
  go_enter Tryz.func77, Tryz.ntmps77
  go_wp2
  exact bodyPost_ret (v := wd n 0 0 0) (by simp [results, Tryz.results77, go_sem]) rfl ⟨rfl, (Below.refl _ _).alloc (Nat.le_refl _) _⟩

end Go.Proofs.YtebjhbeaknokkaaGreatDoor
namespace Go.Proofs.YtebjhbeaknokkaaGreatDoor
open Go Go.RowKit

theorem eqW (a b c d a' b' c' d' : Int) (w : World) : (Op.equalIn 10000 88 (wd a b c d) (wd a' b' c' d')).run Tryz.prog w = .ok (a == a' && (b == b' && (c == c' && d == d'))) w := by
  have u3 := Tryz.underlying22
  have a3 := Tryz.isAgg22
  have z3 := Tryz.sizeOf22
  rw [show (10000 : Nat) = 9999 + 1 from rfl, Op.equalIn]
  simp only [Sem.run_bind, run_underlying Tryz.underlying88, Result.andThen_ok]
  simp only [Std.Legacy.Range.forIn_eq_forIn_range', Std.Legacy.Range.size, Nat.sub_zero, Nat.add_sub_cancel, Nat.div_one, List.range'_succ, List.range'_zero, List.forIn_cons, List.forIn_nil]
  go_simp
  by_cases h1 : a = a' <;> by_cases h2 : b = b' <;> by_cases h3 : c = c' <;> by_cases h4 : d = d' <;> simp [h1, h2, h3, h4]

end Go.Proofs.YtebjhbeaknokkaaGreatDoor
namespace Go.Proofs.YtebjhbeaknokkaaGreatDoor
open Go Go.RowKit

set_option maxRecDepth 100000 in
set_option maxHeartbeats 2000000 in
theorem small_yes (a : Int) (w : World) :
    Calls Tryz.prog 182 #[wd a 0 0 0] w fun e w' => e = .returned (.tuple #[.int .u64 a, .bool true]) ∧ Below w.heap.size w w' := by
  have he : ∀ w : World, (Op.equalIn 10000 88 (wd a 0 0 0) (wd a 0 0 0)).run Tryz.prog w = .ok true w := fun w => by rw [eqW]; simp
  go_enter Tryz.func182, Tryz.ntmps182
  go_wp2_with fail
  go_region_with (go_at_call 77; refine (of_any _ _).mono ?_; rintro e w1 ⟨rfl, hb⟩; obtain ⟨hce, hfr⟩ := bcell hb)
  all_goals go_wp2_with fail
  all_goals
    go_ret2
    refine ⟨rfl, Below.trans ?_ (hb.mono (by first | omega | (simp; omega) | simp))⟩
    (repeat (first | exact Below.refl _ _ | refine Below.drew ?_ | refine Below.alloc ?_ (by first | omega | (simp; omega) | simp) _ | refine Below.setCell ?_ (by first | omega | (simp; omega) | simp) _))

theorem small_in {N : Nat} (h : N < 18446744073709551616) : M.pt 0 N = N ∧ M.pt 1 N = 0 ∧ M.pt 2 N = 0 ∧ M.pt 3 N = 0 :=
  M.parts (by omega) (by omega) (by omega) (by omega) (by omega) (by omega) (by omega) (by omega) (by omega)

end Go.Proofs.YtebjhbeaknokkaaGreatDoor
namespace Go.Proofs.YtebjhbeaknokkaaGreatDoor
open Go Go.RowKit

theorem wn_small (n : Nat) (h : n < 18446744073709551616) : wn n = wd n 0 0 0 := by
  obtain ⟨h0, h1, h2, h3⟩ := small_in h
  unfold wn
  rw [h0, h1, h2, h3]
theorem in_small (n : Nat) (h : n < 18446744073709551616) : M.In n := by unfold M.In; omega
end Go.Proofs.YtebjhbeaknokkaaGreatDoor
namespace Go.Proofs.YtebjhbeaknokkaaGreatDoor
open Go Go.RowKit Go.Shelf

theorem bytes_small (N : Nat) (w : World) (h : N < 18446744073709551616) :
    Calls Tryz.prog 76 #[wd N 0 0 0] w fun e w' => e = .returned (.string ⟨(M.tr (M.f32 N)).toArray⟩) ∧ Below w.heap.size w w' := by
  have := bytes_any N w (in_small N h)
  rwa [wn_small N h] at this

theorem nbe_any (N : Nat) (w : World) (h : N < 18446744073709551616) :
    Calls Tryz.prog 40 #[.int .u64 N] w fun e w' => e = .returned (.string ⟨(M.tr (M.f32 N)).toArray⟩) ∧ Below w.heap.size w w' := by
  go_enter Tryz.func40, Tryz.ntmps40
  go_wp2_with fail
  refine (of_any N _).mono ?_
  rintro e w1 ⟨rfl, hb1⟩
  go_wp2_with fail
  refine (bytes_small N _ h).mono ?_
  rintro e w2 ⟨rfl, hb2⟩
  go_wp2_with fail
  go_ret
  exact ⟨rfl, hb1.trans (hb2.mono hb1.size)⟩

set_option maxHeartbeats 1000000 in
theorem unbe_any (l : List UInt8) (w : World) :
    Calls Tryz.prog 105 #[.string ⟨l.toArray⟩] w fun e w' => e = .returned (.tuple #[.int .u64 ((M.ub l).1 : Nat), .int .i64 ((M.ub l).2 : Nat)]) ∧ Below w.heap.size w w' := by
  by_cases h8 : 8 < l.length
  · have e : M.ub l = (0, 5) := by simp [M.ub, h8]
    rw [e]
    go_enter Tryz.func105, Tryz.ntmps105
    go_wp2_with fail
    go_ret2
    exact ⟨rfl, Below.refl _ _⟩
  · have h8' : l.length ≤ 8 := by omega
    clear h8
    by_cases hp : Lib.hasPrefix l [0] = true
    · have e : M.ub l = (0, 8) := by simp [M.ub, hp, Nat.not_lt.2 h8']
      rw [e]
      have HP := Lib.hid hp
      clear hp e
      go_enter Tryz.func105, Tryz.ntmps105
      go_wp2_with fail
      refine (parse_spare l _ (by omega) HP).mono ?_
      rintro e w1 ⟨rfl, hb1⟩
      go_wp2_with fail
      go_ret2
      exact ⟨rfl, hb1.alloc hb1.size _⟩
    · rw [Bool.not_eq_true] at hp
      have e : M.ub l = (M.dg l, 0) := by simp [M.ub, hp, Nat.not_lt.2 h8']
      rw [e]
      have HP := Lib.hid hp
      clear hp e
      have hw := wn_small _ (M.dg_lt8 h8')
      have hpar := parse_ok l w (by omega) HP
      go_enter Tryz.func105, Tryz.ntmps105
      rw [hw] at hpar
      clear hw
      go_wp2_with fail
      refine hpar.mono ?_
      rintro e w1 ⟨rfl, hb1⟩
      clear hpar
      go_wp2_with fail
      refine (small_yes (M.dg l) _).mono ?_
      rintro e w2 ⟨rfl, hb2⟩
      go_wp2_with fail
      go_ret2
      exact ⟨rfl, (hb1.alloc hb1.size _).trans (hb2.mono (by have := hb1.size; simp; omega))⟩
end Go.Proofs.YtebjhbeaknokkaaGreatDoor
namespace Go.Proofs.YtebjhbeaknokkaaGreatDoor
open Go Go.RowKit

end Go.Proofs.YtebjhbeaknokkaaGreatDoor
namespace Go.Proofs.YtebjhbeaknokkaaGreatDoor
open Go Go.RowKit

/-- The result's cells, for the walk. -/
structure Cells3 (w : World) (g : Nat) : Prop where
  i0 : ∃ v, w.cell? ⟨g, 0, none⟩ = some v
  i1 : ∃ v, w.cell? ⟨g, 1, none⟩ = some v
  i2 : ∃ v, w.cell? ⟨g, 2, none⟩ = some v
  f0 : w.frozen? ⟨g, 0, none⟩ = false
  f1 : w.frozen? ⟨g, 1, none⟩ = false
  f2 : w.frozen? ⟨g, 2, none⟩ = false
theorem cells_three {w : World} {g : Nat} {o0 o1 o2 : Value} {t : TypeId} (h : w.heap[g]? = some (.cells #[o0, o1, o2] t (0, 0))) : Cells3 w g := by
  constructor <;> simp [World.cell?, World.frozen?, h]
theorem set_three {w : World} {g : Nat} {o0 o1 o2 : Value} {t : TypeId} (h : w.heap[g]? = some (.cells #[o0, o1, o2] t (0, 0))) (a b c : Value) :
    ((w.setCell ⟨g, 0, none⟩ a).setCell ⟨g, 1, none⟩ b).setCell ⟨g, 2, none⟩ c = w.setRow g #[a, b, c] := by
  have e1 := setCell_eq_setRow w g 0 #[o0, o1, o2] t (0, 0) a h
  have h1 := setRow_heap w g #[o0, o1, o2] (#[o0, o1, o2].setIfInBounds 0 a) t (0, 0) h
  have e2 := setCell_eq_setRow (w.setRow g (#[o0, o1, o2].setIfInBounds 0 a)) g 1 _ t (0, 0) b h1
  have h2 := setRow_heap _ g _ ((#[o0, o1, o2].setIfInBounds 0 a).setIfInBounds 1 b) t (0, 0) h1
  have e3 := setCell_eq_setRow _ g 2 _ t (0, 0) c h2
  rw [e1, e2, e3, setRow_setRow, setRow_setRow]
  rfl
theorem Tryz.itemSize : (Tryz.prog.info? 44).map (·.size) = some 3 := by kernel_rfl

/-- The function's end: the item is stored into the result's cells, and handed back. -/
theorem rf_post {fn : Func} (hres : fn.results = #[.cell 2 44]) (w w1 : World) (tmps : Array Value) (l : Bool) (d : List UInt8) (v : Value) (g : Nat) (hg : w.heap.size ≤ g) (hB : Below w.heap.size w w1) (o0 o1 o2 : Value)
    (hrow : w1.heap[g]? = some (.cells #[o0, o1, o2] 44 (0, 0))) (R : Ending → World → Prop) (hp : tmps.getD 2 undef = .pointer (some ⟨g, 0, none⟩))
    (h : ∀ Z, Below w.heap.size w Z → Z.heap.size = w1.heap.size → (∀ b, b ≠ g → Z.heap[b]? = w1.heap[b]?) → R (.returned (iv l d v)) Z) :
    bodyPost Tryz.prog fn R .ret { tmps := tmps, defers := [] } (((w1.setCell ⟨g, 0, none⟩ (.bool l)).setCell ⟨g, 1, none⟩ (.string ⟨d.toArray⟩)).setCell ⟨g, 2, none⟩ v) := by
  rw [set_three hrow]
  have hz : (w1.setRow g #[.bool l, .string ⟨d.toArray⟩, v]).heap.size = w1.heap.size := by simp
  have ho : ∀ b, b ≠ g → (w1.setRow g #[.bool l, .string ⟨d.toArray⟩, v]).heap[b]? = w1.heap[b]? := fun b hb => setRow_other _ _ _ _ (fun e => hb (by simpa using e))
  have hb2 : Below w.heap.size w1 (w1.setRow g #[.bool l, .string ⟨d.toArray⟩, v]) := ⟨rfl, rfl, rfl, by omega, fun b hb => ho b (by omega)⟩
  have := results_cell_row (P := Tryz.prog) hres tmps (w1.setRow g #[.bool l, .string ⟨d.toArray⟩, v]) g 44 #[.bool l, .string ⟨d.toArray⟩, v] (0, 0) _ hp (setRow_heap _ _ _ _ _ (0, 0) hrow) Tryz.underlying44 rfl Tryz.itemSize
  exact bodyPost_ret this rfl (h _ (hB.trans hb2) hz ho)

end Go.Proofs.YtebjhbeaknokkaaGreatDoor
namespace Go.Proofs.YtebjhbeaknokkaaGreatDoor
open Go Go.RowKit

end Go.Proofs.YtebjhbeaknokkaaGreatDoor
namespace Go.Proofs.YtebjhbeaknokkaaGreatDoor
open Go Go.RowKit

theorem Tryz.ofByte : (Tryz.prog.info? 5).map (fun i => (i.zero, i.size, i.bytes)) = some (some (.int .u8 0), 1, 1) := by kernel_rfl

set_option maxRecDepth 100000 in
set_option maxHeartbeats 4000000 in
theorem lite_any (d : List UInt8) (w : World) (hd : d.length ≤ 281474976710656) : Calls Tryz.prog 118 #[.string ⟨d.toArray⟩] w fun e w' => e = .returned (.string ⟨d.toArray⟩) ∧ Below w.heap.size w w' := by
  have hz : (⟨d.toArray⟩ : ByteArray).size = d.length := rfl
  by_cases h0 : d.length = 0
  · obtain rfl := List.eq_nil_of_length_eq_zero h0
    go_enter Tryz.func118, Tryz.ntmps118
    go_wp2_with fail
    go_ret
    exact ⟨rfl, Below.refl _ _⟩
  · obtain ⟨i0, hi, hz0, hz1, hz2⟩ := info_parts Tryz.ofByte
    have hinfo : (Tryz.prog.info? 5).map (·.size) = some 1 := by rw [hi]; simp [hz1]
    have hco : Tryz.prog.cellsOf 5 = 1 := by simp [Program.cellsOf, hi, hz1]
    obtain ⟨m, hm⟩ : ∃ m, m = madeCells (Value.int .u8 0).cells (((d.length : Nat) : Int).toNat * i0.size) := ⟨_, rfl⟩
    have hms : m.size = d.length := by rw [hm, size_madeCells, hz1]; simp
    have hmk : ∀ W : World, (Instr.makeSlice 75 (.int .i64 (d.length : Int)) (.int .i64 (d.length : Int))).run Tryz.prog W = .ok (.slice (some ⟨W.heap.size, 0, none⟩) d.length d.length) (W.alloc (.cells m 5)) := fun W => by
      have h := run_make (P := Tryz.prog) W 75 5 i0 (.int .u8 0) Tryz.underlying75 hi hz0 .i64 .i64 (d.length : Int) (d.length : Int) (by omega) (by omega) (by rw [hz2]; omega) (by omega)
      rw [← hm] at h
      simpa using h
    clear hm
    have hcp := Lib.run_copy_row_string (P := Tryz.prog) (w.alloc (.cells m 5)) 75 9 3 5 w.heap.size 0 d.length d.length ⟨d.toArray⟩ m 5 Tryz.underlying75 hinfo (heap_alloc_new w _) (by rw [hz]; omega) (by rw [hz]; omega)
    obtain ⟨Y, hY⟩ : ∃ Y, Y = (m.toList.take 0 ++ Lib.byteCells (⟨d.toArray⟩ : ByteArray).data.toList ++ m.toList.drop (0 + (⟨d.toArray⟩ : ByteArray).size)).toArray := ⟨_, rfl⟩
    rw [← hY, hz] at hcp
    have hYl : Y.toList = Lib.byteCells d := by
      rw [hY, List.toList_toArray, List.take_zero, List.nil_append, List.drop_of_length_le (by rw [Array.length_toList, hz]; omega), List.append_nil]
    have hYs : Y.size = d.length := by rw [← Array.length_toList, hYl, Lib.byteCells_length]
    have hgY : ((w.alloc (.cells m 5)).setRow w.heap.size Y).heap[w.heap.size]? = some (.cells Y 5 (0, 0)) := setRow_heap _ _ m _ 5 (0, 0) (heap_alloc_new w _)
    have hne : d ≠ [] := fun e => h0 (by rw [e]; rfl)
    have hus := Lib.run_unsafeString_row (P := Tryz.prog) ((w.alloc (.cells m 5)).setRow w.heap.size Y) 118 3 9 5 Tryz.underlying118 hco w.heap.size Y.size (by unfold World.shape?; rw [hgY]) d hne (by omega) (by omega)
      (fun j x hx => Lib.cells_of_row hgY Y.size j _ (by rw [List.take_of_length_le (by rw [Array.length_toList]; exact Nat.le_refl _), hYl]; simp [Lib.byteCells, hx]))
    clear hY
    have hb1 : Below w.heap.size w (w.alloc (.cells m 5)) := (Below.refl _ w).alloc (Nat.le_refl _) _
    have hb2 : Below w.heap.size (w.alloc (.cells m 5)) ((w.alloc (.cells m 5)).setRow w.heap.size Y) := ⟨rfl, rfl, rfl, by simp, fun k hk => setRow_other _ _ _ _ (by omega)⟩
    go_enter Tryz.func118, Tryz.ntmps118
    go_wp2_with fail
    go_ret
    exact ⟨rfl, Lib.below_freeze (hb1.trans hb2) (p := ⟨w.heap.size, 0, none⟩) (Nat.le_refl _) _⟩

set_option maxRecDepth 100000 in
theorem clone_any (d : List UInt8) (w : World) (hd : d.length ≤ 281474976710656) : Calls Tryz.prog 75 #[.string ⟨d.toArray⟩] w fun e w' => e = .returned (.string ⟨d.toArray⟩) ∧ Below w.heap.size w w' := by
  go_enter Tryz.func75, Tryz.ntmps75
  go_wp2_with (refine (lite_any d _ hd).mono ?_; rintro e W' ⟨rfl, hb⟩)
  go_ret
  exact ⟨rfl, hb⟩
end Go.Proofs.YtebjhbeaknokkaaGreatDoor
namespace Go.Proofs.YtebjhbeaknokkaaGreatDoor
open Go Go.RowKit

set_option maxRecDepth 100000 in
set_option maxHeartbeats 4000000 in
theorem ofnum_any (l : Bool) (d : List UInt8) (xs : List M.It) (a : Option Addr) (cap : Nat) (hf : l = false → xs = []) (w : World) :
    Calls Tryz.prog 104 #[iv l d (.slice a xs.length cap), .func (.func 105) #[] #[]] w fun e w' => e = .returned (.tuple #[.int .u64 ((M.getNumber (.mk l d xs)).1 : Nat), .int .i64 ((M.getNumber (.mk l d xs)).2 : Nat)]) ∧ Below w.heap.size w w' := by
  have HU := Lib.hid (fun W => unbe_any d W)
  have E1 : ∀ args w, (callFunc 105 args).run Tryz.prog w = .ok (.enter 105 args) w := enters_of Tryz.func105 (by kernel_rfl) rfl
  have hb0 : Below w.heap.size w (w.alloc (.cells #[.bool l, .string ⟨d.toArray⟩, .slice a xs.length cap] 44)) := by (repeat (first | exact Below.refl _ _ | refine Below.drew ?_ | refine Below.alloc ?_ (by first | omega | (simp; omega) | simp) _ | refine Below.setCell ?_ (by first | omega | (simp; omega) | simp) _))
  cases l with
  | true =>
    go_enter Tryz.func104, Tryz.ntmps104
    go_wp2_with fail
    go_ret2
    exact ⟨rfl, hb0⟩
  | false =>
    obtain rfl := hf rfl
    go_enter Tryz.func104, Tryz.ntmps104
    go_wp2_with fail
    refine (HU.out _).mono ?_
    rintro e w1 ⟨rfl, hb1⟩
    go_wp2_with fail
    go_ret2
    exact ⟨rfl, hb0.trans (hb1.mono (by simp))⟩

/-- Bytes read of an item, by whatever function: it may have captured something. -/
theorem ofstr_any (g : FuncId) (caps : Array Value) (E1 : ∀ args w, (callFunc g args).run Tryz.prog w = .ok (.enter g args) w) (l : Bool) (d : List UInt8) (xs : List M.It) (a : Option Addr) (cap : Nat) (hf : l = false → xs = []) (r : List UInt8 × Nat) (w : World)
    (hr : l = true → r = ([], 2)) (H : l = false → ∀ W, Below w.heap.size w W → Calls Tryz.prog g (#[.string ⟨d.toArray⟩] ++ caps) W fun e w' => e = .returned (.tuple #[.string ⟨r.1.toArray⟩, .int .i64 (r.2 : Nat)]) ∧ Below W.heap.size W w') :
    Calls Tryz.prog 253 #[iv l d (.slice a xs.length cap), .func (.func g) #[] caps] w fun e w' => e = .returned (.tuple #[.string ⟨r.1.toArray⟩, .int .i64 (r.2 : Nat)]) ∧ Below w.heap.size w w' := by
  have hb0 : Below w.heap.size w (w.alloc (.cells #[.bool l, .string ⟨d.toArray⟩, .slice a xs.length cap] 44)) := by (repeat (first | exact Below.refl _ _ | refine Below.drew ?_ | refine Below.alloc ?_ (by first | omega | (simp; omega) | simp) _ | refine Below.setCell ?_ (by first | omega | (simp; omega) | simp) _))
  cases l with
  | true =>
    obtain rfl := hr rfl
    clear H
    go_enter Tryz.func253, Tryz.ntmps253
    go_wp2_with fail
    go_ret2
    exact ⟨rfl, hb0⟩
  | false =>
    obtain rfl := hf rfl
    have HU := Lib.hid (H rfl)
    clear H
    go_enter Tryz.func253, Tryz.ntmps253
    go_wp2_with fail
    refine (HU.out _ hb0).mono ?_
    rintro e w1 ⟨rfl, hb1⟩
    go_wp2_with fail
    go_ret2
    exact ⟨rfl, hb0.trans (hb1.mono (by simp))⟩

theorem ofbool_any (g : FuncId) (E1 : ∀ args w, (callFunc g args).run Tryz.prog w = .ok (.enter g args) w) (l : Bool) (d : List UInt8) (xs : List M.It) (a : Option Addr) (cap : Nat) (hf : l = false → xs = []) (r : Bool × Nat) (w : World)
    (hr : l = true → r = (false, 2)) (H : l = false → ∀ W, Calls Tryz.prog g #[.string ⟨d.toArray⟩] W fun e w' => e = .returned (.tuple #[.bool r.1, .int .i64 (r.2 : Nat)]) ∧ Below W.heap.size W w') :
    Calls Tryz.prog 102 #[iv l d (.slice a xs.length cap), .func (.func g) #[] #[]] w fun e w' => e = .returned (.tuple #[.bool r.1, .int .i64 (r.2 : Nat)]) ∧ Below w.heap.size w w' := by
  have hb0 : Below w.heap.size w (w.alloc (.cells #[.bool l, .string ⟨d.toArray⟩, .slice a xs.length cap] 44)) := by (repeat (first | exact Below.refl _ _ | refine Below.drew ?_ | refine Below.alloc ?_ (by first | omega | (simp; omega) | simp) _ | refine Below.setCell ?_ (by first | omega | (simp; omega) | simp) _))
  cases l with
  | true =>
    obtain rfl := hr rfl
    clear H
    go_enter Tryz.func102, Tryz.ntmps102
    go_wp2_with fail
    go_ret2
    exact ⟨rfl, hb0⟩
  | false =>
    obtain rfl := hf rfl
    have HU := Lib.hid (H rfl)
    clear H
    go_enter Tryz.func102, Tryz.ntmps102
    go_wp2_with fail
    refine (HU.out _).mono ?_
    rintro e w1 ⟨rfl, hb1⟩
    go_wp2_with fail
    go_ret2
    exact ⟨rfl, hb0.trans (hb1.mono (by simp))⟩
end Go.Proofs.YtebjhbeaknokkaaGreatDoor
namespace Go.Proofs.YtebjhbeaknokkaaGreatDoor
open Go Go.RowKit

end Go.Proofs.YtebjhbeaknokkaaGreatDoor
namespace Go.Proofs.YtebjhbeaknokkaaGreatDoor
open Go Go.RowKit

theorem Rd.form {W : World} {l : Bool} {d : List UInt8} {xs : List M.It} {a : Option Addr} {cap : Nat} (h : Rd W l d xs a cap) : l = false → xs = [] := (M.formI_ok h.2.2.2).2

set_option maxRecDepth 100000 in
set_option maxHeartbeats 4000000 in
theorem get_number : GNumberOk := by
  intro l d xs a cap w hR
  have HU := Lib.hid (fun W => ofnum_any l d xs a cap hR.form W)
  have hb0 : Below w.heap.size w (w.alloc (.cells #[.bool l, .string ⟨d.toArray⟩, .slice a xs.length cap] 44)) := by (repeat (first | exact Below.refl _ _ | refine Below.drew ?_ | refine Below.alloc ?_ (by first | omega | (simp; omega) | simp) _ | refine Below.setCell ?_ (by first | omega | (simp; omega) | simp) _))
  clear hR
  generalize M.getNumber (.mk l d xs) = r at *
  go_enter Tryz.func65, Tryz.ntmps65
  go_wp2_with fail
  refine (HU.out _).mono ?_
  rintro e w1 ⟨rfl, hb1⟩
  go_wp2_with fail
  go_ret2
  exact ⟨rfl, hb0.trans (hb1.mono (by simp))⟩

set_option maxRecDepth 100000 in
set_option maxHeartbeats 4000000 in
theorem bool_read (d : List UInt8) (w : World) : Calls Tryz.prog 103 #[.string ⟨d.toArray⟩] w fun e w' => e = .returned (.tuple #[.bool (M.gBool d).1, .int .i64 ((M.gBool d).2 : Nat)]) ∧ Below w.heap.size w w' := by
  by_cases h0 : d = []
  · subst h0
    go_enter Tryz.func103, Tryz.ntmps103
    go_wp2_with fail
    go_ret2
    exact ⟨rfl, Below.refl _ _⟩
  · by_cases h1 : d = [1]
    · subst h1
      go_enter Tryz.func103, Tryz.ntmps103
      go_wp2_with fail
      go_ret2
      exact ⟨rfl, Below.refl _ _⟩
    · have e : M.gBool d = (false, 2) := by simp [M.gBool, h0, h1]
      rw [e]
      have e0 : d.isEmpty = false := by simpa using h0
      have e1 : (d == [1]) = false := by simpa using h1
      clear e h1
      go_enter Tryz.func103, Tryz.ntmps103
      go_wp2_with fail
      go_ret2
      exact ⟨rfl, Below.refl _ _⟩

set_option maxRecDepth 100000 in
set_option maxHeartbeats 4000000 in
theorem get_bool : GBoolOk := by
  intro l d xs a cap w hR
  have E1 : ∀ args w, (callFunc 103 args).run Tryz.prog w = .ok (.enter 103 args) w := enters_of Tryz.func103 (by kernel_rfl) rfl
  have HU := Lib.hid (fun W => ofbool_any 103 E1 l d xs a cap hR.form (M.getBool (.mk l d xs)) W (fun h => by subst h; rfl) (fun h V => by subst h; exact bool_read d V))
  have hb0 : Below w.heap.size w (w.alloc (.cells #[.bool l, .string ⟨d.toArray⟩, .slice a xs.length cap] 44)) := by (repeat (first | exact Below.refl _ _ | refine Below.drew ?_ | refine Below.alloc ?_ (by first | omega | (simp; omega) | simp) _ | refine Below.setCell ?_ (by first | omega | (simp; omega) | simp) _))
  clear hR E1
  generalize M.getBool (.mk l d xs) = r at *
  go_enter Tryz.func63, Tryz.ntmps63
  go_wp2_with fail
  refine (HU.out _).mono ?_
  rintro e w1 ⟨rfl, hb1⟩
  go_wp2_with fail
  go_ret2
  exact ⟨rfl, hb0.trans (hb1.mono (by simp))⟩
end Go.Proofs.YtebjhbeaknokkaaGreatDoor
namespace Go.Proofs.YtebjhbeaknokkaaGreatDoor
open Go Go.RowKit

theorem Rd.len {W : World} {l : Bool} {d : List UInt8} {xs : List M.It} {a : Option Addr} {cap : Nat} (h : Rd W l d xs a cap) : d.length ≤ 140737488355328 := by
  have := h.2.1
  rw [M.smI] at this
  exact this.1

set_option maxRecDepth 100000 in
set_option maxHeartbeats 4000000 in
theorem count_any (n : Nat) (least most : Int) (w : World) : Calls Tryz.prog 249 #[.int .i64 n, .int .i64 least, .int .i64 most] w fun e w' => e = .returned (.int .i64 (M.within n least most : Nat)) ∧ Below w.heap.size w w' := by
  by_cases h0 : (n : Int) < least
  · rw [show M.within n least most = 3 by simp [M.within, h0]]
    go_enter Tryz.func249, Tryz.ntmps249
    go_wp2_with fail
    go_ret
    exact ⟨rfl, Below.refl _ _⟩
  · by_cases h1 : most < (n : Int)
    · rw [show M.within n least most = 5 by simp [M.within, h0, h1]]
      go_enter Tryz.func249, Tryz.ntmps249
      go_wp2_with fail
      go_ret
      exact ⟨rfl, Below.refl _ _⟩
    · rw [show M.within n least most = 0 by simp [M.within, h0, h1]]
      go_enter Tryz.func249, Tryz.ntmps249
      go_wp2_with fail
      go_ret
      exact ⟨rfl, Below.refl _ _⟩

set_option maxRecDepth 100000 in
set_option maxHeartbeats 4000000 in
theorem text_read (d : List UInt8) (hd : d.length ≤ 140737488355328) (least most : Int) (p q : Nat) (w : World) (hp : w.cell? ⟨p, 0, none⟩ = some (.int .i64 least)) (hq : w.cell? ⟨q, 0, none⟩ = some (.int .i64 most)) :
    Calls Tryz.prog 254 #[.string ⟨d.toArray⟩, .pointer (some ⟨p, 0, none⟩), .pointer (some ⟨q, 0, none⟩)] w fun e w' => e = .returned (.tuple #[.string ⟨(M.gText least most d).1.toArray⟩, .int .i64 ((M.gText least most d).2 : Nat)]) ∧ Below w.heap.size w w' := by
  have HC := Lib.hid (fun W => clone_any d W (by omega))
  have HN := Lib.hid (fun W => count_any d.length least most W)
  by_cases h : M.within d.length least most = 0
  · rw [show M.gText least most d = (d, 0) by simp [M.gText, h]]
    rw [h] at HN
    clear h
    go_enter Tryz.func254, Tryz.ntmps254
    go_wp2_with fail
    refine (HN.out _).mono ?_
    rintro e w1 ⟨rfl, hb1⟩
    go_wp2_with fail
    refine (HC.out _).mono ?_
    rintro e w2 ⟨rfl, hb2⟩
    go_wp2_with fail
    go_ret2
    exact ⟨rfl, hb1.trans (hb2.mono hb1.size)⟩
  · rw [show M.gText least most d = ([], M.within d.length least most) by simp [M.gText, h]]
    generalize M.within d.length least most = k at *
    have hk : ¬ ((k : Nat) : Int) = 0 := by omega
    go_enter Tryz.func254, Tryz.ntmps254
    go_wp2_with fail
    refine (HN.out _).mono ?_
    rintro e w1 ⟨rfl, hb1⟩
    go_wp2_with fail
    go_ret2
    exact ⟨rfl, hb1⟩

set_option maxRecDepth 100000 in
set_option maxHeartbeats 4000000 in
theorem get_text : GTextOk := by
  intro l d xs a cap least most w hR
  have E1 : ∀ args w, (callFunc 254 args).run Tryz.prog w = .ok (.enter 254 args) w := enters_of Tryz.func254 (by kernel_rfl) rfl
  have HU : Hid (∀ p q W, W.cell? ⟨p, 0, none⟩ = some (.int .i64 least) → W.cell? ⟨q, 0, none⟩ = some (.int .i64 most) → p < W.heap.size → q < W.heap.size →
      Calls Tryz.prog 253 #[iv l d (.slice a xs.length cap), .func (.func 254) #[] #[.pointer (some ⟨p, 0, none⟩), .pointer (some ⟨q, 0, none⟩)]] W fun e w' => e = .returned (.tuple #[.string ⟨(M.getText least most (.mk l d xs)).1.toArray⟩, .int .i64 ((M.getText least most (.mk l d xs)).2 : Nat)]) ∧ Below W.heap.size W w') := Lib.hid fun p q W hp hq hlp hlq =>
    ofstr_any 254 #[.pointer (some ⟨p, 0, none⟩), .pointer (some ⟨q, 0, none⟩)] E1 l d xs a cap hR.form (M.getText least most (.mk l d xs)) W (fun h => by subst h; rfl) (fun h V hV => by subst h; exact text_read d hR.len least most p q V ((hV.cell (p := ⟨p, 0, none⟩) hlp).trans hp) ((hV.cell (p := ⟨q, 0, none⟩) hlq).trans hq))
  clear hR E1
  generalize M.getText least most (.mk l d xs) = r at *
  go_enter Tryz.func185, Tryz.ntmps185
  go_wp2_with fail
  refine (HU.out _ _ _ (by simp [go_sem]) (by simp [go_sem]) (by first | omega | (simp; omega) | simp) (by first | omega | (simp; omega) | simp)).mono ?_
  rintro e w1 ⟨rfl, hb1⟩
  go_wp2_with fail
  go_ret2
  refine ⟨rfl, Below.trans ?_ (hb1.mono (by first | omega | (simp; omega) | simp))⟩
  (repeat (first | exact Below.refl _ _ | refine Below.drew ?_ | refine Below.alloc ?_ (by first | omega | (simp; omega) | simp) _ | refine Below.setCell ?_ (by first | omega | (simp; omega) | simp) _))
end Go.Proofs.YtebjhbeaknokkaaGreatDoor
