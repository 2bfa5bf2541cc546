/- The landed package shape: check. The landed package shape: fixed. The landed package shape: what is left of a value, the type of an item, sizes. The landed package shape: size. The reference's Types: how many types stand in a type. The reference's Vals: how many values stand in a value. The reference's Fits; the law's Few. Contracts of word.fromTop, of the function that it hands back, and of word.Less. -/
import Derived.Test.YtgloapcfmlijlaaGreatDoorH07
import Derived.RangeFuncBox
import Derived.Shelf.Abstract
import Derived.Test.YtgloapcfmlijlaaGreatDoorH04
import Derived.Test.YtgloapcfmlijlaaGreatDoorH03
import Derived.Test.YtgloapcfmlijlaaGreatDoorH01
import Derived.Laws.Bits64b
import Derived.Test.YtgloapcfmlijlaaGreatDoorH06
import Derived.RangeFuncNested
import Derived.RangeFuncBound
import Derived.RangeFuncCalls
import Derived.RangeFuncLeaves
import Derived.Shelf.RegionOpen
import Derived.OwnWalkIn
import Derived.TacticsInMore
import Derived.LoopNIn
import Derived.LoopIn
namespace Go.Proofs.YtgloapcfmlijlaaGreatDoor
open Go Go.RowKit Go.Shelf
attribute [local go_sem] Oper.semAt_some

/-- A kind's form. -/
theorem kform (j c : Nat) (hj : j < 8) (n : Int) (m : Nat) (hm : (m : Int) ≤ 9223372036854775807) (a : Option Addr) (cap : Nat) (w : World) (hH : HasAt w w.heap.size c (numG (j + 1)) (loN (j + 1)) (hiN (j + 1))) :
    Calls Tryz.prog 176 #[tv ((j + 1 : Nat) : Int) n (.slice a m cap), .pointer (some ⟨c, 0, none⟩), .pointer (some ⟨c + 1, 0, none⟩), .pointer (some ⟨c + 2, 0, none⟩)] w fun e w' => e = .returned (.bool (M.formT ((j + 1 : Nat) : Int) n m)) ∧ Below w.heap.size w w' := by
  have g1 := fun H => form_any 108 _ (enters_of Tryz.func108 (by kernel_rfl) rfl) width_any c (loN (j + 1)) (hiN (j + 1)) ((j + 1 : Nat) : Int) n m hm a cap w H
  have g2 := fun H => form_any 114 _ (enters_of Tryz.func114 (by kernel_rfl) rfl) nought_any c (loN (j + 1)) (hiN (j + 1)) ((j + 1 : Nat) : Int) n m hm a cap w H
  have g3 := fun H => form_any 119 _ (enters_of Tryz.func119 (by kernel_rfl) rfl) count_any c (loN (j + 1)) (hiN (j + 1)) ((j + 1 : Nat) : Int) n m hm a cap w H
  have key : ∀ q : Bool, q = M.formT ((j + 1 : Nat) : Int) n m → ∀ {g : FuncId}, (Calls Tryz.prog 176 #[tv ((j + 1 : Nat) : Int) n (.slice a m cap), .pointer (some ⟨c, 0, none⟩), .pointer (some ⟨c + 1, 0, none⟩), .pointer (some ⟨c + 2, 0, none⟩)] w fun e w' => e = .returned (.bool q) ∧ Below w.heap.size w w') → True → Calls Tryz.prog 176 #[tv ((j + 1 : Nat) : Int) n (.slice a m cap), .pointer (some ⟨c, 0, none⟩), .pointer (some ⟨c + 1, 0, none⟩), .pointer (some ⟨c + 2, 0, none⟩)] w fun e w' => e = .returned (.bool (M.formT ((j + 1 : Nat) : Int) n m)) ∧ Below w.heap.size w w' := by
    intro q hq _ h _
    rw [← hq]
    exact h
  match j, hj with
  | 0, _ => exact key _ (by simp only [loN, hiN]; unfold M.formT; rw [if_pos (by decide)]; cases m <;> simp) (g := 0) (g1 hH) trivial
  | 1, _ => exact key _ (by simp only [loN, hiN]; unfold M.formT; rw [if_neg (by decide), if_pos (by decide)]; cases m <;> simp) (g := 0) (g2 hH) trivial
  | 2, _ => exact key _ (by simp only [loN, hiN]; unfold M.formT; rw [if_neg (by decide), if_neg (by decide), if_pos (by decide)]; rcases (by omega : m = 1 ∨ m = 0 ∨ 2 ≤ m) with h | h | h; (rw [h]; simp); (rw [h]; simp); (rw [show (m == 1) = false by simp; omega, show decide (m ≤ 1) = false by simp; omega]; simp)) (g := 0) (g3 hH) trivial
  | 3, _ => exact key _ (by simp only [loN, hiN]; unfold M.formT; rw [if_neg (by decide), if_neg (by decide), if_pos (by decide)]; rcases (by omega : m = 1 ∨ m = 0 ∨ 2 ≤ m) with h | h | h; (rw [h]; simp); (rw [h]; simp); (rw [show (m == 1) = false by simp; omega, show decide (m ≤ 1) = false by simp; omega]; simp)) (g := 0) (g3 hH) trivial
  | 4, _ => exact key _ (by simp only [loN, hiN]; unfold M.formT; rw [if_neg (by decide), if_neg (by decide), if_neg (by decide), if_pos (by decide)]; by_cases h : m = 0 <;> simp [h]) (g := 0) (g3 hH) trivial
  | 5, _ => exact key _ (by simp only [loN, hiN]; unfold M.formT; rw [if_neg (by decide), if_neg (by decide), if_neg (by decide), if_pos (by decide)]; by_cases h : m = 0 <;> simp [h]) (g := 0) (g3 hH) trivial
  | 6, _ => exact key _ (by simp only [loN, hiN]; unfold M.formT; rw [if_neg (by decide), if_neg (by decide), if_neg (by decide), if_neg (by decide), if_pos (by decide)]) (g := 0) (g2 hH) trivial
  | 7, _ => exact key _ (by simp only [loN, hiN]; unfold M.formT; rw [if_neg (by decide), if_neg (by decide), if_neg (by decide), if_neg (by decide), if_neg (by decide)]) (g := 0) (g2 hH) trivial

/-- A function value, or none, is stored. -/
def IsF (V : Value) : Prop := V = .nilFunc ∨ ∃ F xa xb, V = .func F xa xb
theorem store_f {V : Value} (hV : IsF V) (W : World) (p : Addr) (h1 : (W.cell? p).isSome = true) (h2 : W.frozen? p = false) : (store p V).run Tryz.prog W = .ok () (W.setCell p V) := by
  rw [run_store _ _ _ _ _ (by rcases hV with rfl | ⟨F, xa, xb, rfl⟩ <;> rfl)]
  obtain ⟨v, hv⟩ := Option.isSome_iff_exists.1 h1
  rw [hv]
  simp [h2]
theorem isF_size (j : Nat) : IsF (sizeV j) := by unfold sizeV; split <;> first | exact .inr ⟨_, _, _, rfl⟩ | exact .inl rfl
theorem isF_of (j : Nat) : IsF (ofF j) := by unfold ofF; split <;> first | exact .inr ⟨_, _, _, rfl⟩ | exact .inl rfl

/-- Between two rounds: what lay there lies there; the table's box, the result's box. -/
structure CI (w : World) (b : Nat) (rt : TypeId) (ru : Value) (bt : Nat) (k n : Int) (v : Value) (W : World) : Prop where
  below : Below w.heap.size w W
  m : Boxed W w.heap.size 78 (.map (some b))
  r : Boxed W (w.heap.size + 2) rt ru
  t : BoxT W bt k n v
theorem boxed_kept' {W W' : World} {b : Nat} {t : TypeId} {v : Value} (h : Boxed W b t v) {row : Option Nat} (hg : W.grownBy W' row) (hr : ∀ r, row = some r → ∃ o : Obj, W.heap[r]? = some o ∧ o.isCells = false) : Boxed W' b t v :=
  (hg.block b h.lt (fun e => by
    obtain ⟨o, ho, hc⟩ := hr b e.symm
    rw [show W.heap[b]? = _ from h] at ho
    cases ho
    cases hc)).trans h
theorem below_kept {w W W' : World} (h : Below w.heap.size w W) {row : Option Nat} (hg : W.grownBy W' row) (hr : ∀ r, row = some r → w.heap.size ≤ r) : Below w.heap.size w W' :=
  ⟨hg.os.trans h.os, hg.tape.trans h.tape, hg.output.trans h.output, Nat.le_trans h.size hg.size, fun i hi => (hg.block i (Nat.lt_of_lt_of_le hi h.size) (fun e => by have := hr i e.symm; omega)).trans (h.block i hi)⟩
theorem boxT_kept {W W' : World} {S : Nat} {k m : Int} {v : Value} (h : BoxT W S k m v) {row : Option Nat} (hg : W.grownBy W' row) (hr : ∀ r, row = some r → ∃ o : Obj, W.heap[r]? = some o ∧ o.isCells = false) : BoxT W' S k m v :=
  ⟨cell_kept h.c0 hg hr, cell_kept h.c1 hg hr, cell_kept h.c2 hg hr⟩
theorem BoxT.lt' {W : World} {S : Nat} {k m : Int} {v : Value} (h : BoxT W S k m v) : S < W.heap.size := by
  have h0 := h.c0
  unfold World.cell? at h0
  cases ho : W.heap[S]? with
  | none => simp [ho] at h0
  | some o => exact (Array.getElem?_eq_some_iff.1 ho).1
theorem CI_own {w : World} {b B : Nat} {rt : TypeId} {ru : Value} {bt : Nat} {k n : Int} {v : Value} (hB : w.heap.size ≤ B) : OwnFrom B fun (_ : List El) W => CI w b rt ru bt k n v W := fun _ _ _ _ h hg hrow =>
  ⟨below_kept h.below hg (fun r e => Nat.le_trans hB (hrow r e).1), boxed_kept' h.m hg (fun r e => (hrow r e).2), boxed_kept' h.r hg (fun r e => (hrow r e).2), boxT_kept h.t hg (fun r e => (hrow r e).2)⟩
theorem CI.go {w B W2 : World} {b : Nat} {rt : TypeId} {ru : Value} {bt : Nat} {k n : Int} {v : Value} (h : CI w b rt ru bt k n v B) (hb : Below B.heap.size B W2) : CI w b rt ru bt k n v W2 :=
  ⟨h.below.trans (hb.mono h.below.size), (hb.block _ h.m.lt).trans h.m, (hb.block _ h.r.lt).trans h.r, h.t.from_ hb h.t.lt'⟩
structure CX (w : World) (x : El) (W : World) : Prop where
  below : Below w.heap.size w W
  r : Boxed W (w.heap.size + 2) 34 (.int .i64 (M.ownE x.1 : Nat))
theorem CX_own {w : World} {B : Nat} (hB : w.heap.size ≤ B) : OwnFrom B fun (x : El) W => CX w x W := fun _ _ _ _ h hg hrow =>
  ⟨below_kept h.below hg (fun r e => Nat.le_trans hB (hrow r e).1), boxed_kept' h.r hg (fun r e => (hrow r e).2)⟩
/-- The loop's variables are assigned to. -/
def CAx (w : World) (b : Nat) (rt : TypeId) (ru : Value) (bt : Nat) (k0 n0 : Int) (v0 : Value) (L0 : List (Nat × M.Ty)) (A1 : Nat → El → Act) (pre : List El) (x : El) (a' : Act) (B : World) : Prop :=
  ∃ (bx : Nat) (k n : Int) (us : List M.Ty), x.1.2 = .mk k n us ∧ GoodEl w L0 pre x ∧ a' = A1 bx x ∧ CI w b rt ru bt k0 n0 v0 B ∧ BoxT B bx k n x.2 ∧ w.heap.size + 3 ≤ bx ∧ bx < B.heap.size
theorem CAx_own {w : World} {b B : Nat} {rt : TypeId} {ru : Value} {bt : Nat} {k0 n0 : Int} {v0 : Value} (hB : w.heap.size ≤ B) {L0 : List (Nat × M.Ty)} {A1 : Nat → El → Act} (pre : List El) (x : El) (a' : Act) : OwnFrom B fun (_ : Unit) W => CAx w b rt ru bt k0 n0 v0 L0 A1 pre x a' W := by
  rintro _ W W' row ⟨bx, k, n, us, h1, h2, h3, h4, h5, h6, h7⟩ hg hrow
  exact ⟨bx, k, n, us, h1, h2, h3, CI_own hB [] _ _ row h4 hg hrow, boxT_kept h5 hg (fun r e => (hrow r e).2), h6, Nat.lt_of_lt_of_le h7 hg.size⟩

set_option maxRecDepth 100000 in
set_option maxHeartbeats 8000000 in
theorem kcheck_any (k n : Int) (xs : List M.Ty) (a : Option Addr) (cap b : Nat) (cs : List Nat) (w : World) (hL : LayT w w.heap.size xs (.slice a xs.length cap)) (hc : M.cntT (.mk k n xs) ≤ 1000) (hK : Kinds w w.heap.size b cs) :
    Calls Tryz.prog 54 #[.map (some b), tv k n (.slice a xs.length cap)] w fun e w' => e = .returned (.int .i64 (M.chkT 0 (.mk k n xs) : Nat)) ∧ Below w.heap.size w w' := by
  have hro : Fence.wide.round = none := rfl
  obtain ⟨r, hr⟩ : ∃ r, r = M.chkT 0 (.mk k n xs) := ⟨_, rfl⟩
  rw [← hr]
  refine (callsIn_wide (n := 6)).1 ?_
  refine callsIn_of_wp_marks Tryz.func54 rfl trivial ?_ rfl
  simp only [Tryz.ntmps54, List.size_toArray, List.length_cons, List.length_nil, Nat.reduceAdd, Nat.reduceSub, Array.replicate_succ, Array.replicate_zero, List.push_toArray, List.append_toArray, List.nil_append, List.cons_append]
  gi_wp2_with fail
  refine ⟨trivial, (within_in _ k n (.slice a xs.length cap) _).mono ?_⟩
  rintro e w' ⟨rfl, rfl⟩
  generalize hW1 : ((((w.alloc (.cells #[.map (some b)] 78)).alloc (.cells #[.int .i64 k, .int .i64 n, .slice a xs.length cap] 24)).alloc (.cells #[.int .i64 0] 34)).alloc (.cells #[.int .i64 k, .int .i64 n, .slice a xs.length cap] 24)) = W1
  have hz1 : W1.heap.size = w.heap.size + 4 := by rw [← hW1]; simp
  have hb1 : Below w.heap.size w W1 := by rw [← hW1]; (repeat (first | exact Below.refl _ _ | refine Below.drew ?_ | refine Below.alloc ?_ (by first | omega | (simp; omega) | simp) _ | refine Below.setCell ?_ (by first | omega | (simp; omega) | simp) _))
  have hI1 : CI w b 34 (.int .i64 0) (w.heap.size + 3) k n (.slice a xs.length cap) W1 := by
    refine ⟨hb1, ?_, ?_, ?_⟩
    · rw [← hW1]; exact (((Boxed.new w _ _).alloc _).alloc _).alloc _
    · rw [← hW1]
      have := Boxed.new ((w.alloc (.cells #[.map (some b)] 78)).alloc (.cells #[.int .i64 k, .int .i64 n, .slice a xs.length cap] 24)) 34 (.int .i64 0)
      rw [World.size_alloc, World.size_alloc] at this
      exact this.alloc _
    · rw [← hW1]
      have := BoxT.new (((w.alloc (.cells #[.map (some b)] 78)).alloc (.cells #[.int .i64 k, .int .i64 n, .slice a xs.length cap] 24)).alloc (.cells #[.int .i64 0] 34)) k n (.slice a xs.length cap) 24
      rw [World.size_alloc, World.size_alloc, World.size_alloc] at this
      exact this
  clear hW1
  gi_wp2_with fail
  obtain ⟨A1, hA1⟩ : ∃ A1 : Nat → El → Act, A1 = fun bx x => { tmps := #[.map (some b), tv k n (.slice a xs.length cap), .pointer (some ⟨w.heap.size, 0, none⟩), .pointer (some ⟨w.heap.size + 1, 0, none⟩), .pointer (some ⟨w.heap.size + 1 + 1, 0, none⟩), .int .i64 (x.1.1 : Nat), .pointer (some ⟨bx, 0, none⟩), undef, undef,
    .agg #[.int .i64 k, .int .i64 n, .slice a xs.length cap], .func (.func 180) #[] #[.pointer (some ⟨w.heap.size + 1 + 1 + 1, 0, none⟩)], .int .i64 (x.1.1 : Nat), tv x.1.2.k x.1.2.n x.2, undef, undef, undef, undef, undef, undef, undef, undef, undef, undef, undef, undef, undef, undef, undef, undef, undef, undef, undef], defers := [] } := ⟨_, rfl⟩
  have hw1 : w.heap.size ≤ W1.heap.size := by omega
  refine range_lw (gf := 180) (lb := #[.pointer (some ⟨w.heap.size + 1 + 1 + 1, 0, none⟩)]) (by omega) rfl (enters_of Tryz.func180 (by kernel_rfl) rfl)
    (encs := encT) (fun x => by obtain ⟨⟨d, ⟨k', n', us⟩⟩, v⟩ := x; rfl) (fun _ W => CI w b 34 (.int .i64 0) (w.heap.size + 3) k n (.slice a xs.length cap) W) (CI_own hw1) (CX w) (CX_own hw1)
    (fun c => c ≠ W1.heap.size + 1) (fun c h => h) (AllOf (.mk k n xs) (fun x => M.ownE x.1 = 0)) (OneOf (.mk k n xs) (fun x => M.ownE x.1 = 0)) (fun x => M.ownE x.1 = 0)
    (fun pre x _ _ => GoodEl w (M.flat 0 (.mk k n xs)) pre x) ?seq hI1 (fun pre x a' B => CAx w b 34 (.int .i64 0) (w.heap.size + 3) k n (.slice a xs.length cap) (M.flat 0 (.mk k n xs)) A1 pre x a' B) (fun pre x a' => CAx_own hw1 pre x a') ?assign ?body ?done ?stop
  case seq =>
    intro l J Jx W hzW hJI hJ hY h0
    have HT : TellH w (M.flat 0 (.mk k n xs)) (fun c => c ≠ W1.heap.size + 1) (W1.heap.size + 2) l J Jx (fun x => M.ownE x.1 = 0) :=
      ⟨hJ, fun pre A h => (hJI pre A h).1.below, fun pre A h => (hJI pre A h).2, fun c hc => by omega, fun m pre x A hj hx => yieldAt_any (hY pre x A A hj ⟨rfl, rfl, rfl, Nat.le_refl _, fun _ _ _ => rfl⟩ hx)⟩
    exact within_seq w _ _ l J Jx _ k n xs HT _ a cap hL (by omega) _ W (hJI [] W h0).1.t h0
  case assign =>
    rintro l pre ⟨⟨d, ⟨k', n', us⟩⟩, v⟩ A B K hI hg hG hK'
    obtain ⟨ua, uc, hu, _, _⟩ := hG.1.slice
    replace hu : v = .slice ua us.length uc := hu
    subst hu
    dsimp only [encT]
    have hIB := CI_own (Nat.le_refl w.heap.size) pre _ _ none hI hg (fun r e => by cases e)
    have hzB := hIB.below.size
    have hz3 := (hIB.t.lt')
    have hAX : CAx w b 34 (.int .i64 0) (w.heap.size + 3) k n (.slice a xs.length cap) (M.flat 0 (.mk k n xs)) A1 pre ((d, .mk k' n' us), .slice ua us.length uc) (A1 B.heap.size ((d, .mk k' n' us), .slice ua us.length uc)) (B.alloc (.cells #[.int .i64 k', .int .i64 n', .slice ua us.length uc] 24)) :=
      ⟨B.heap.size, k', n', us, rfl, hG, rfl, CI_own (Nat.le_refl w.heap.size) pre _ _ none hIB (World.grownBy_alloc _ _ _) (fun r e => by cases e), BoxT.new _ _ _ _ _, by omega, by simp⟩
    rw [hA1] at hAX
    gi_wp2
    refine hK' _ _ ((KeepsOthers.alloc B _).from _) (fun c hc _ => Below.heap_alloc _ _ _ (by omega)) ?_
    rw [hA1]
    exact hAX
  case body =>
    rintro l pre ⟨⟨d, ⟨k', n', us⟩⟩, v⟩ a' B ⟨bx, k2, n2, us2, hx, hG, rfl, hI, hBx, h4, h5⟩
    cases hx
    replace hBx : BoxT B bx k' n' v := hBx
    obtain ⟨ua, uc, hu, _, _⟩ := hG.1.slice
    replace hu : v = .slice ua us.length uc := hu
    have hul : us.length ≤ 1100 := by
      have h1 := hG.2.1
      have h2 : d + M.cntT (.mk k' n' us) ≤ 1100 := h1
      rw [M.cntT] at h2
      have h3 := M.length_cntT us
      omega
    subst hu
    rw [hA1]
    dsimp only [M.Ty.k, M.Ty.n]
    have hm := hI.m.cell
    have c0 := hBx.c0
    have c1 := hBx.c1
    have c2 := hBx.c2
    have cr : B.cell? ⟨w.heap.size + 1 + 1, 0, none⟩ = some (.int .i64 0) := hI.r.cell
    have fr : B.frozen? ⟨w.heap.size + 1 + 1, 0, none⟩ = false := hI.r.frozen
    have hlt4 : w.heap.size + 1 + 1 < B.heap.size := by omega
    by_cases hk : k' < 1 ∨ 8 < k'
    · have hlk := (hK.from_ hI.below).miss true k' hk
      simp only [if_true] at hlk
      have hE : M.ownE (d, .mk k' n' us) = 9 := by unfold M.ownE; exact if_pos hk
      have s0 := fun W p => store_f (V := .nilFunc) (.inl rfl) W p
      unfold zeroK at hlk
      gi_wp2_with fail
      have hsz := hI.below.size
      refine ⟨fun h => (by have h' : M.ownE (d, .mk k' n' us) = 0 := h; omega), ((KeepsOthers.setCell _ _ _).trans (KeepsOthers.alloc _ _)).from _, ⟨(hI.below.setCell (p := ⟨w.heap.size + 1 + 1, 0, none⟩) (by simp; omega) _).alloc (by simp [World.setCell]; omega) _, ?_⟩⟩
      rw [hE]
      exact (hI.r.set _).alloc _
    · obtain ⟨j, c, hkj, hj, hH, hlk⟩ := hK.at_ k' (by omega) (by omega)
      have HK := Lib.hid hkj
      clear hkj
      replace hlk := hlk true B hI.below
      simp only [if_true, ent] at hlk
      have s0 := fun W p => store_f (V := hasV c) (.inr ⟨_, _, _, rfl⟩) W p
      have s1 := fun W p => store_f (isF_size (j + 1)) W p
      have s2 := fun W p => store_f (V := .func (.func (faultG (j + 1))) #[] #[]) (.inr ⟨_, _, _, rfl⟩) W p
      have s3 := fun W p => store_f (V := .func (.func (restG (j + 1))) #[] #[]) (.inr ⟨_, _, _, rfl⟩) W p
      have s4 := fun W p => store_f (isF_of (j + 1)) W p
      have hsz := hI.below.size
      have hB2 := hI.below.alloc hsz (.cells #[hasV c, sizeV (j + 1), .func (.func (faultG (j + 1))) #[] #[], .func (.func (restG (j + 1))) #[] #[], ofF (j + 1)] 112)
      have HF := kform j c hj n' us.length (by omega) ua uc _ ((hH.from_ hB2).mono hB2.size)
      rw [← HK.out] at HF
      have HF := Lib.hid HF
      have hEo : M.ownE (d, .mk k' n' us) = if M.formT k' n' us.length = false then 2 else if d = 6 then 7 else 0 := by unfold M.ownE; exact if_neg hk
      generalize M.formT k' n' us.length = q at *
      have HI := Lib.hid hI
      have HE := Lib.hid hEo
      clear hEo hI hk
      gi_wp2_with fail
      refine ⟨trivial, CallsIn.inRound l ((callsIn_wide.2 HF.out).mono ?_)⟩
      rintro e w2 ⟨rfl, hb2⟩
      have hbB : Below B.heap.size B w2 := ((Below.refl _ B).alloc (Nat.le_refl _) _).trans (hb2.mono (by simp))
      have hI2 := Lib.hid (HI.out.go hbB)
      have cr2 : w2.cell? ⟨w.heap.size + 1 + 1, 0, none⟩ = some (.int .i64 0) := hI2.out.r.cell
      have fr2 : w2.frozen? ⟨w.heap.size + 1 + 1, 0, none⟩ = false := hI2.out.r.frozen
      have hko : KeepsOthers B w2 := ⟨hbB.size, fun c o h _ => (hbB.block c (Array.getElem?_eq_some_iff.1 h).1).trans h⟩
      cases q with
      | false =>
        gi_wp2_with fail
        have hE2 : M.ownE (d, .mk k' n' us) = 2 := HE.out
        refine ⟨fun h => (by have h' : M.ownE (d, .mk k' n' us) = 0 := h; omega), (hko.trans (KeepsOthers.setCell _ _ _)).from _, ⟨hI2.out.below.setCell (p := ⟨w.heap.size + 1 + 1, 0, none⟩) (by simp; omega) _, ?_⟩⟩
        rw [hE2]
        exact hI2.out.r.set _
      | true =>
        by_cases hd : d = 6
        · subst hd
          gi_wp2_with fail
          have hE2 : M.ownE (6, .mk k' n' us) = 7 := HE.out
          refine ⟨fun h => (by have h' : M.ownE (6, .mk k' n' us) = 0 := h; omega), (hko.trans (KeepsOthers.setCell _ _ _)).from _, ⟨hI2.out.below.setCell (p := ⟨w.heap.size + 1 + 1, 0, none⟩) (by simp; omega) _, ?_⟩⟩
          rw [hE2]
          exact hI2.out.r.set _
        · have hd' : ((d : Int) == 6) = false := by simp; omega
          have hE2 := HE.out
          rw [if_neg (by decide), if_neg hd] at hE2
          have hE3 := Lib.hid hE2
          clear hE2 hd
          gi_wp2_with fail
          exact ⟨hE3.out, hko.from _, fun c hc _ => hbB.block c hc, hI2.out⟩
  case done =>
    rintro D ys W hD ⟨hys, hon⟩ hI hKd
    have hE : M.chkT 0 (.mk k n xs) = 0 := (M.chk_all (by omega)).2 (by
      intro y hy
      rw [← hys] at hy
      obtain ⟨x, hx, rfl⟩ := List.mem_map.1 hy
      exact hon x hx)
    have cr : W.cell? ⟨w.heap.size + 1 + 1, 0, none⟩ = some (.int .i64 0) := hI.r.cell
    have fr : W.frozen? ⟨w.heap.size + 1 + 1, 0, none⟩ = false := hI.r.frozen
    rw [hE] at hr
    have HR := Lib.hid hr
    have HI := Lib.hid hI
    clear hE hr hI
    gi_wp2
    have hK' := (KeepsOthers.setCell W ⟨w.heap.size + 1 + 1, 0, none⟩ (.int .i64 0)).same D _ hKd rfl
    refine ⟨by simp, .inl ⟨_, _, rfl, run_takeDeferred hK', ?_⟩⟩
    have hc5 := cell_kept (World.cell?_setCell_same' W ⟨w.heap.size + 1 + 1, 0, none⟩ (.int .i64 0) (by rw [cr]; rfl)) (grownBy_putObj' _ D (.deferred none)) (fun r e => by cases e; exact ⟨_, hK', rfl⟩)
    refine ⟨.int .i64 0, ?_, by rw [HR.out]; rfl, (HI.out.below.setCell (p := ⟨w.heap.size + 1 + 1, 0, none⟩) (by simp; omega) _).trans (belowK_b (w := w) (Nat.le_refl _) _ D _ _ (by omega) hK' rfl rfl)⟩
    simp [results, Tryz.f54, go_sem, hc5]
  case stop =>
    rintro D y W hD ⟨ys, zs, hfl, hon, hoff⟩ hX hKd
    have hE : M.chkT 0 (.mk k n xs) = M.ownE y.1 := M.chk_first (by omega) hfl (by
      intro z hz
      obtain ⟨x, hx, rfl⟩ := List.mem_map.1 hz
      exact hon x hx) hoff
    rw [hE] at hr
    have HR := Lib.hid hr
    have HX := Lib.hid hX
    clear hE hr hX
    gi_wp2
    refine ⟨by simp, .inl ⟨_, _, rfl, run_takeDeferred hKd, ?_⟩⟩
    have cr : W.cell? ⟨w.heap.size + 1 + 1, 0, none⟩ = some (.int .i64 (M.ownE y.1 : Nat)) := HX.out.r.cell
    have hc5 := cell_kept cr (grownBy_putObj' _ D (.deferred none)) (fun r e => by cases e; exact ⟨_, hKd, rfl⟩)
    refine ⟨.int .i64 (M.ownE y.1 : Nat), ?_, by rw [HR.out], HX.out.below.trans (belowK_b (w := w) (Nat.le_refl _) W D _ _ (by omega) hKd rfl rfl)⟩
    simp [results, Tryz.f54, go_sem, hc5]
end Go.Proofs.YtgloapcfmlijlaaGreatDoor
namespace Go.Proofs.YtgloapcfmlijlaaGreatDoor
open Go Go.RowKit Go.Shelf
attribute [local go_sem] Oper.semAt_some

/-- A type that has as many bytes itself. -/
def OnF (x : El) : Prop := (1 ≤ x.1.2.k ∧ x.1.2.k ≤ 8) ∧ M.isFix x.1 = true
theorem field_kind (a b c d e : Value) (W : World) : (Instr.field 112 (.agg #[a, b, c, d, e]) 1).run Tryz.prog W = .ok b W := by
  simp [Instr.field, run_underlying Tryz.underlying112, part, isAgg, run_underlying Tryz.underlying106, asAgg, Result.andThen]
theorem eq_func (F : Fn) (xa xb : Array Value) (W : World) : (binOp .eql 106 (.func F xa xb) .nilFunc).run Tryz.prog W = .ok (.bool false) W := by
  simp only [binOp, Op.equal]
  rw [show Op.maxDepth = 9999 + 1 from rfl, Op.equalIn]
  simp [run_underlying Tryz.underlying106, Result.andThen]
theorem eq_nil (W : World) : (binOp .eql 106 .nilFunc .nilFunc).run Tryz.prog W = .ok (.bool true) W := by
  simp only [binOp, Op.equal]
  rw [show Op.maxDepth = 9999 + 1 from rfl, Op.equalIn]
  simp [run_underlying Tryz.underlying106, Result.andThen]
theorem size_nil (j : Nat) (hj : j < 8) : (sizeV (j + 1) = .nilFunc ∧ ((j + 1 : Nat) = 4 ∨ (j + 1 : Nat) = 6 ∨ (j + 1 : Nat) = 8)) ∨ ((∃ F, sizeV (j + 1) = .func F #[] #[]) ∧ ¬ ((j + 1 : Nat) = 4 ∨ (j + 1 : Nat) = 6 ∨ (j + 1 : Nat) = 8)) := by
  match j, hj with
  | 0, _ => exact .inr ⟨⟨_, rfl⟩, by decide⟩
  | 1, _ => exact .inr ⟨⟨_, rfl⟩, by decide⟩
  | 2, _ => exact .inr ⟨⟨_, rfl⟩, by decide⟩
  | 3, _ => exact .inl ⟨rfl, by decide⟩
  | 4, _ => exact .inr ⟨⟨_, rfl⟩, by decide⟩
  | 5, _ => exact .inl ⟨rfl, by decide⟩
  | 6, _ => exact .inr ⟨⟨_, rfl⟩, by decide⟩
  | 7, _ => exact .inl ⟨rfl, by decide⟩

set_option maxRecDepth 100000 in
set_option maxHeartbeats 8000000 in
theorem kfixed_any (k n : Int) (xs : List M.Ty) (a : Option Addr) (cap b : Nat) (cs : List Nat) (w : World) (hL : LayT w w.heap.size xs (.slice a xs.length cap)) (hc : M.cntT (.mk k n xs) ≤ 1000) (hK : Kinds w w.heap.size b cs) :
    Calls Tryz.prog 152 #[.map (some b), tv k n (.slice a xs.length cap)] w fun e w' => e = .returned (.bool (M.fixedT (.mk k n xs))) ∧ Below w.heap.size w w' := by
  have hro : Fence.wide.round = none := rfl
  obtain ⟨r, hr⟩ : ∃ r, r = M.fixedT (.mk k n xs) := ⟨_, rfl⟩
  rw [← hr]
  refine (callsIn_wide (n := 6)).1 ?_
  refine callsIn_of_wp_marks Tryz.func152 rfl trivial ?_ rfl
  simp only [Tryz.ntmps152, List.size_toArray, List.length_cons, List.length_nil, Nat.reduceAdd, Nat.reduceSub, Array.replicate_succ, Array.replicate_zero, List.push_toArray, List.append_toArray, List.nil_append, List.cons_append]
  have hb0 : ∀ o1 o2 o3, Below w.heap.size w (((w.alloc o1).alloc o2).alloc o3) := fun o1 o2 o3 => (((Below.refl _ w).alloc (Nat.le_refl _) o1).alloc (by simp) o2).alloc (by simp; omega) o3
  have HC := Lib.hid (fun W (h : Below w.heap.size w W) => kcheck_any k n xs a cap b cs W ((hL.from_ h).mono h.size) hc ((hK.from_ h).mono h.size))
  gi_wp2_with fail
  refine ⟨trivial, (callsIn_wide.2 (HC.out _ (hb0 _ _ _))).mono ?_⟩
  rintro e w1 ⟨rfl, hb1⟩
  have hz3 := hb1.size
  simp only [World.size_alloc] at hz3
  have hI0 : Hid (CI w b 4 (.bool false) (w.heap.size + 1) k n (.slice a xs.length cap) w1) := by
    refine ⟨(hb0 _ _ _).trans (hb1.mono (by simp; omega)), (hb1.block w.heap.size (by simp; omega)).trans ?_, (hb1.block (w.heap.size + 2) (by simp)).trans ?_, BoxT.from_ (n := w.heap.size + 3) ?_ (by simpa using hb1) (by omega)⟩
    · exact ((Boxed.new w _ _).alloc _).alloc _
    · have := Boxed.new ((w.alloc (.cells #[.map (some b)] 78)).alloc (.cells #[.int .i64 k, .int .i64 n, .slice a xs.length cap] 24)) 4 (.bool false)
      rw [World.size_alloc, World.size_alloc] at this
      exact this
    · have := BoxT.new (w.alloc (.cells #[.map (some b)] 78)) k n (.slice a xs.length cap) 24
      rw [World.size_alloc] at this
      exact this.from_ ((Below.refl _ _).alloc (Nat.le_refl _) _) (by simp)
  have m0 : w1.cell? ⟨w.heap.size, 0, none⟩ = some (.map (some b)) := hI0.out.m.cell
  have t0 : w1.cell? ⟨w.heap.size + 1, 0, none⟩ = some (.int .i64 k) := hI0.out.t.c0
  have t1 : w1.cell? ⟨w.heap.size + 1, 1, none⟩ = some (.int .i64 n) := hI0.out.t.c1
  have t2 : w1.cell? ⟨w.heap.size + 1, 2, none⟩ = some (.slice a xs.length cap) := hI0.out.t.c2
  have cr : w1.cell? ⟨w.heap.size + 1 + 1, 0, none⟩ = some (.bool false) := hI0.out.r.cell
  have fr : w1.frozen? ⟨w.heap.size + 1 + 1, 0, none⟩ = false := hI0.out.r.frozen
  by_cases hchk : M.chkT 0 (.mk k n xs) = 0
  · rw [hchk]
    have hfx : M.fixedT (.mk k n xs) = M.fixT (.mk k n xs) := by rw [M.fixedT, if_pos hchk]
    rw [hfx] at hr
    have HR := Lib.hid hr
    have HCK := Lib.hid hchk
    clear hr hfx hchk
    gi_wp2_with fail
    refine ⟨trivial, (within_in _ k n (.slice a xs.length cap) _).mono ?_⟩
    rintro e w' ⟨rfl, rfl⟩
    generalize hW1 : w1.alloc (.cells #[.int .i64 k, .int .i64 n, .slice a xs.length cap] 24) = W1
    have hz1 : W1.heap.size = w1.heap.size + 1 := by rw [← hW1]; simp
    have hI1 : CI w b 4 (.bool false) w1.heap.size k n (.slice a xs.length cap) W1 := by
      have h1 := hI0.out.go (W2 := W1) (by rw [← hW1]; exact (Below.refl _ _).alloc (Nat.le_refl _) _)
      exact ⟨h1.below, h1.m, h1.r, by rw [← hW1]; exact BoxT.new _ _ _ _ _⟩
    clear hW1 m0 t0 t1 t2 cr fr hb1
    gi_wp2_with fail
    obtain ⟨A1, hA1⟩ : ∃ A1 : Nat → El → Act, A1 = fun bx x => { tmps := #[.map (some b), tv k n (.slice a xs.length cap), .pointer (some ⟨w.heap.size, 0, none⟩), .pointer (some ⟨w.heap.size + 1, 0, none⟩), .pointer (some ⟨w.heap.size + 1 + 1, 0, none⟩), undef, .pointer (some ⟨bx, 0, none⟩), .map (some b),
      .agg #[.int .i64 k, .int .i64 n, .slice a xs.length cap], .int .i64 0, .bool false, .agg #[.int .i64 k, .int .i64 n, .slice a xs.length cap], .func (.func 180) #[] #[.pointer (some ⟨w1.heap.size, 0, none⟩)], .int .i64 (x.1.1 : Nat), tv x.1.2.k x.1.2.n x.2, undef, undef, undef, undef, undef, undef], defers := [] } := ⟨_, rfl⟩
    have hw1 : w.heap.size ≤ W1.heap.size := by omega
    refine range_lw (gf := 180) (lb := #[.pointer (some ⟨w1.heap.size, 0, none⟩)]) (by omega) rfl (enters_of Tryz.func180 (by kernel_rfl) rfl)
      (encs := encT) (fun x => by obtain ⟨⟨d, ⟨k', n', us⟩⟩, v⟩ := x; rfl) (fun _ W => CI w b 4 (.bool false) w1.heap.size k n (.slice a xs.length cap) W) (CI_own hw1) (fun _ W => Below w.heap.size w W ∧ Boxed W (w.heap.size + 2) 4 (.bool false)) (fun _ _ _ _ h hg hrow => ⟨below_kept h.1 hg (fun r e => Nat.le_trans hw1 (hrow r e).1), boxed_kept' h.2 hg (fun r e => (hrow r e).2)⟩)
      (fun c => c ≠ W1.heap.size + 1) (fun c h => h) (AllOf (.mk k n xs) OnF) (OneOf (.mk k n xs) OnF) OnF
      (fun pre x _ _ => GoodEl w (M.flat 0 (.mk k n xs)) pre x) ?seq hI1 (fun pre x a' B => CAx w b 4 (.bool false) w1.heap.size k n (.slice a xs.length cap) (M.flat 0 (.mk k n xs)) A1 pre x a' B) (fun pre x a' => CAx_own hw1 pre x a') ?assign ?body ?done ?stop
    case seq =>
      intro l J Jx W hzW hJI hJ hY h0
      have HT : TellH w (M.flat 0 (.mk k n xs)) (fun c => c ≠ W1.heap.size + 1) (W1.heap.size + 2) l J Jx OnF :=
        ⟨hJ, fun pre A h => (hJI pre A h).1.below, fun pre A h => (hJI pre A h).2, fun c hc => by omega, fun m pre x A hj hx => yieldAt_any (hY pre x A A hj ⟨rfl, rfl, rfl, Nat.le_refl _, fun _ _ _ => rfl⟩ hx)⟩
      exact within_seq w _ _ l J Jx _ k n xs HT _ a cap hL (by omega) _ W (hJI [] W h0).1.t h0
    case assign =>
      rintro l pre ⟨⟨d, ⟨k', n', us⟩⟩, v⟩ A B K hI hg hG hK'
      obtain ⟨ua, uc, hu, _, _⟩ := hG.1.slice
      replace hu : v = .slice ua us.length uc := hu
      subst hu
      dsimp only [encT]
      have hIB := CI_own (Nat.le_refl w.heap.size) pre _ _ none hI hg (fun r e => by cases e)
      have hzB := hIB.below.size
      have hz3 := (hIB.t.lt')
      have hAX : CAx w b 4 (.bool false) w1.heap.size k n (.slice a xs.length cap) (M.flat 0 (.mk k n xs)) A1 pre ((d, .mk k' n' us), .slice ua us.length uc) (A1 B.heap.size ((d, .mk k' n' us), .slice ua us.length uc)) (B.alloc (.cells #[.int .i64 k', .int .i64 n', .slice ua us.length uc] 24)) :=
        ⟨B.heap.size, k', n', us, rfl, hG, rfl, CI_own (Nat.le_refl w.heap.size) pre _ _ none hIB (World.grownBy_alloc _ _ _) (fun r e => by cases e), BoxT.new _ _ _ _ _, by omega, by simp⟩
      rw [hA1] at hAX
      gi_wp2
      refine hK' _ _ ((KeepsOthers.alloc B _).from _) (fun c hc _ => Below.heap_alloc _ _ _ (by omega)) ?_
      rw [hA1]
      exact hAX
    case body =>
      rintro l pre ⟨⟨d, ⟨k', n', us⟩⟩, v⟩ a' B ⟨bx, k2, n2, us2, hx, hG, rfl, hI, hBx, h4, h5⟩
      cases hx
      replace hBx : BoxT B bx k' n' v := hBx
      have hkr : 1 ≤ k' ∧ k' ≤ 8 := by
        obtain ⟨zs, hzs⟩ := hG.2.2
        have h1 := (M.chk_all (t := .mk k n xs) (d := 0) (by omega)).1 HCK.out (d, .mk k' n' us) (by rw [hzs]; simp)
        replace h1 : (if k' < 1 ∨ 8 < k' then 9 else if M.formT k' n' us.length = false then 2 else if d = 6 then 7 else 0) = 0 := h1
        by_cases h2 : k' < 1 ∨ 8 < k'
        · rw [if_pos h2] at h1; cases h1
        · omega
      rw [hA1]
      dsimp only [M.Ty.k, M.Ty.n]
      have hm := hI.m.cell
      have c0 := hBx.c0
      have c1 := hBx.c1
      have c2 := hBx.c2
      have cr : B.cell? ⟨w.heap.size + 1 + 1, 0, none⟩ = some (.bool false) := hI.r.cell
      have fr : B.frozen? ⟨w.heap.size + 1 + 1, 0, none⟩ = false := hI.r.frozen
      obtain ⟨j, c, hkj, hj, hH, hlk⟩ := hK.at_ k' hkr.1 hkr.2
      replace hlk := hlk false B hI.below
      simp only [ent] at hlk
      have HI := Lib.hid hI
      have hfk := field_kind
      have hq1 := eq_func
      have hq2 := eq_nil
      rcases size_nil j hj with ⟨hs, hj4⟩ | ⟨⟨F, hs⟩, hj4⟩
      · rw [hs] at hlk
        have HO : Hid (¬ OnF ((d, .mk k' n' us), v)) := fun h => by
          have h1 := h.2
          unfold M.isFix at h1
          simp only [M.Ty.k, hkj] at h1
          rcases hj4 with e | e | e <;> rw [e] at h1 <;> simp at h1
        clear hkj hI hj4 hkr
        gi_wp2_with fail
        exact ⟨HO.out, (KeepsOthers.setCell _ _ _).from _, HI.out.below.setCell (p := ⟨w.heap.size + 1 + 1, 0, none⟩) (by simp; omega) _, HI.out.r.set _⟩
      · rw [hs] at hlk
        have HO : Hid (OnF ((d, .mk k' n' us), v)) := ⟨hkr, by
          unfold M.isFix
          simp only [M.Ty.k, hkj]
          simp
          omega⟩
        clear hkj hI hj4 hkr
        gi_wp2_with fail
        exact ⟨HO.out, (KeepsOthers.refl _).from _, fun _ _ _ => rfl, HI.out⟩
    case done =>
      rintro D ys W hD ⟨hys, hon⟩ hI hKd
      have hE : M.fixT (.mk k n xs) = true := by
        rw [M.fixT_flat _ 0, ← hys, List.all_eq_true]
        intro y hy
        obtain ⟨x, hx, rfl⟩ := List.mem_map.1 hy
        exact (hon x hx).2
      have cr : W.cell? ⟨w.heap.size + 1 + 1, 0, none⟩ = some (.bool false) := hI.r.cell
      have fr : W.frozen? ⟨w.heap.size + 1 + 1, 0, none⟩ = false := hI.r.frozen
      rw [hE] at HR
      have HI := Lib.hid hI
      clear hE hI
      gi_wp2
      have hK' := (KeepsOthers.setCell W ⟨w.heap.size + 1 + 1, 0, none⟩ (.bool true)).same D _ hKd rfl
      refine ⟨by simp, .inl ⟨_, _, rfl, run_takeDeferred hK', ?_⟩⟩
      have hc5 := cell_kept (World.cell?_setCell_same' W ⟨w.heap.size + 1 + 1, 0, none⟩ (.bool true) (by rw [cr]; rfl)) (grownBy_putObj' _ D (.deferred none)) (fun r e => by cases e; exact ⟨_, hK', rfl⟩)
      refine ⟨.bool true, ?_, by rw [HR.out], (HI.out.below.setCell (p := ⟨w.heap.size + 1 + 1, 0, none⟩) (by simp; omega) _).trans (belowK_b (w := w) (Nat.le_refl _) _ D _ _ (by omega) hK' rfl rfl)⟩
      simp [results, Tryz.f152, go_sem, hc5]
    case stop =>
      rintro D y W hD ⟨ys, zs, hfl, hon, hoff⟩ ⟨hX, hXr⟩ hKd
      have hE : M.fixT (.mk k n xs) = false := by
        rw [M.fixT_flat _ 0, hfl, List.all_append, List.all_cons]
        have h1 := (M.chk_all (t := .mk k n xs) (d := 0) (by omega)).1 HCK.out y.1 (by rw [hfl]; simp)
        have h2 : M.isFix y.1 = false := by
          cases hy : M.isFix y.1 with
          | false => rfl
          | true =>
            refine absurd ⟨?_, hy⟩ hoff
            obtain ⟨⟨d, ⟨k', n', us⟩⟩, v⟩ := y
            replace h1 : (if k' < 1 ∨ 8 < k' then 9 else if M.formT k' n' us.length = false then 2 else if d = 6 then 7 else 0) = 0 := h1
            by_cases h2 : k' < 1 ∨ 8 < k'
            · rw [if_pos h2] at h1; cases h1
            · show 1 ≤ k' ∧ k' ≤ 8
              omega
        rw [h2]
        simp
      rw [hE] at HR
      clear hE
      have HX := Lib.hid hX
      clear hX
      gi_wp2
      refine ⟨by simp, .inl ⟨_, _, rfl, run_takeDeferred hKd, ?_⟩⟩
      have cr : W.cell? ⟨w.heap.size + 1 + 1, 0, none⟩ = some (.bool false) := hXr.cell
      have hc5 := cell_kept cr (grownBy_putObj' _ D (.deferred none)) (fun r e => by cases e; exact ⟨_, hKd, rfl⟩)
      refine ⟨.bool false, ?_, by rw [HR.out], HX.out.trans (belowK_b (w := w) (Nat.le_refl _) W D _ _ (by omega) hKd rfl rfl)⟩
      simp [results, Tryz.f152, go_sem, hc5]
  · have hfx : M.fixedT (.mk k n xs) = false := by rw [M.fixedT, if_neg hchk]
    rw [hfx] at hr
    have HR := Lib.hid hr
    generalize M.chkT 0 (.mk k n xs) = q at *
    have hq : (((q : Nat) : Int) != 0) = true := by simp; omega
    clear hr hfx hchk
    gi_wp2_with fail
    have hc5 := World.cell?_setCell_same' w1 ⟨w.heap.size + 1 + 1, 0, none⟩ (.bool false) (by rw [cr]; rfl)
    refine ⟨.bool false, ?_, by rw [HR.out], hI0.out.below.setCell (p := ⟨w.heap.size + 1 + 1, 0, none⟩) (by simp; omega) _⟩
    simp [results, Tryz.f152, go_sem, hc5]
end Go.Proofs.YtgloapcfmlijlaaGreatDoor
namespace Go.Proofs.YtgloapcfmlijlaaGreatDoor
open Go Go.RowKit

theorem Vl.longs {w : World} {n N : Nat} {bs : List Bool} {us : List M.Va} {ab : Option Addr} {cb : Nat} {au : Option Addr} {cu : Nat} (h : Vl w n N bs us ab cb au cu) : bs.length ≤ 9223372036854775807 ∧ us.length ≤ 9223372036854775807 := by
  obtain ⟨_, _, e, h1, h2⟩ := h.b.slice
  cases e
  obtain ⟨_, _, e, h3, h4⟩ := h.v.slice
  cases e
  simp only [maxLen] at h2 h4
  exact ⟨by omega, by omega⟩

/-- Is all of it zero, or empty? -/
theorem empty_any (N : Nat) (hN : M.In N) (lb lu : Nat) (_hlb : lb ≤ 9223372036854775807) (_hlu : lu ≤ 9223372036854775807) (ab : Option Addr) (cb : Nat) (au : Option Addr) (cu : Nat) (p : Int) (w : World) :
    Calls Tryz.prog 140 #[vv N (.slice ab lb cb) (.slice au lu cu) p] w fun e w' => e = .returned (.bool (N == 0 && lb == 0 && lu == 0 && p == 0)) ∧ Below w.heap.size w w' := by
  have hb0 : Below w.heap.size w (w.alloc (.cells #[.int .u64 (M.pt 0 N), .int .u64 (M.pt 1 N), .int .u64 (M.pt 2 N), .int .u64 (M.pt 3 N), .slice ab lb cb, .slice au lu cu, .int .i64 p] 33)) := by (repeat (first | exact Below.refl _ _ | refine Below.drew ?_ | refine Below.alloc ?_ (by first | omega | (simp; omega) | simp) _ | refine Below.setCell ?_ (by first | omega | (simp; omega) | simp) _))
  have he : ∀ W, (Op.equalIn 10000 29 (wn N) (wd 0 0 0 0)).run Tryz.prog W = .ok (decide (N = 0)) W := fun W => by
    have := eqN hN (show M.In 0 by unfold M.In; omega) W
    rwa [show (wn 0 : Value) = wd 0 0 0 0 by unfold wn; rw [show M.pt 0 0 = 0 by decide +kernel, show M.pt 1 0 = 0 by decide +kernel, show M.pt 2 0 = 0 by decide +kernel, show M.pt 3 0 = 0 by decide +kernel]] at this
  by_cases h1 : N = 0
  · have hh : decide (N = 0) = true := decide_eq_true h1
    rw [hh] at he
    have h1' := Lib.hid h1
    clear h1 hh
    by_cases h2 : lb = 0
    · have g2 : ((lb : Int) == 0) = true := by simp; omega
      have h2' := Lib.hid h2
      clear h2
      by_cases h3 : lu = 0
      · have g3 : ((lu : Int) == 0) = true := by simp; omega
        have h3' := Lib.hid h3
        clear h3
        go_enter Tryz.func140, Tryz.ntmps140
        go_wp2_with fail
        go_ret
        exact ⟨by rw [h1'.out, h2'.out, h3'.out]; simp, hb0⟩
      · have g3 : ((lu : Int) == 0) = false := by simp; omega
        have h3' := Lib.hid h3
        clear h3
        go_enter Tryz.func140, Tryz.ntmps140
        go_wp2_with fail
        go_ret
        exact ⟨by rw [show (lu == 0) = false by have := h3'.out; simp; omega]; simp, hb0⟩
    · have g2 : ((lb : Int) == 0) = false := by simp; omega
      have h2' := Lib.hid h2
      clear h2
      go_enter Tryz.func140, Tryz.ntmps140
      go_wp2_with fail
      go_ret
      exact ⟨by rw [show (lb == 0) = false by have := h2'.out; simp; omega]; simp, hb0⟩
  · have hh : decide (N = 0) = false := decide_eq_false h1
    rw [hh] at he
    have h1' := Lib.hid h1
    clear h1 hh
    go_enter Tryz.func140, Tryz.ntmps140
    go_wp2_with fail
    go_ret
    exact ⟨by rw [show (N == 0) = false by have := h1'.out; simp; omega]; simp, hb0⟩

/-- What a function that takes a kind's parts off must do. -/
def RestC (k : Int) (g : FuncId) : Prop := ∀ (N lb lu : Nat) (p : Int) (ab : Option Addr) (cb : Nat) (au : Option Addr) (cu : Nat) (w : World), M.In N → lb ≤ 9223372036854775807 → lu ≤ 9223372036854775807 →
  Calls Tryz.prog g #[vv N (.slice ab lb cb) (.slice au lu cu) p] w fun e w' => ∃ (N' lb' lu' : Nat) (p' : Int) (ab' : Option Addr) (cb' : Nat) (au' : Option Addr) (cu' : Nat), e = .returned (vv N' (.slice ab' lb' cb') (.slice au' lu' cu') p') ∧
    (N' = (if k = 1 ∨ k = 2 then 0 else N) ∧ lb' = (if k = 5 ∨ k = 6 then 0 else lb) ∧ lu' = (if k = 3 ∨ k = 4 ∨ k = 7 ∨ k = 8 then 0 else lu) ∧ p' = (if k = 8 then 0 else p)) ∧ Below w.heap.size w w'

theorem two_boxes' (w : World) (o o' : Obj) : Below w.heap.size w ((w.alloc o).alloc o') := ((Below.refl _ w).alloc (Nat.le_refl _) o).alloc (by simp) o'
theorem Tryz.valSize : (Tryz.prog.info? 33).map (·.size) = some 7 := by kernel_rfl
/-- The result is a value in the newest block. -/
theorem va_new {fn : Func} {s : Tmp} (hres : fn.results = #[.cell s 33]) (w W : World) (tmps : Array Value) (c0 c1 c2 c3 c4 c5 c6 : Value) (R : Ending → World → Prop) (hp : tmps.getD s undef = .pointer (some ⟨W.heap.size, 0, none⟩)) (hb : Below w.heap.size w W)
    (h : ∀ Z, Below w.heap.size w Z → R (.returned (.agg #[c0, c1, c2, c3, c4, c5, c6])) Z) :
    bodyPost Tryz.prog fn R .ret { tmps := tmps, defers := [] } (W.alloc (.cells #[c0, c1, c2, c3, c4, c5, c6] 33)) := by
  have := results_cell_row (P := Tryz.prog) hres tmps (W.alloc (.cells #[c0, c1, c2, c3, c4, c5, c6] 33)) W.heap.size 33 #[c0, c1, c2, c3, c4, c5, c6] (0, 0) _ hp (heap_alloc_new W _) Tryz.underlying33 rfl Tryz.valSize
  exact bodyPost_ret this rfl (h _ (hb.alloc hb.size _))
theorem Tryz.typeSize' : (Tryz.prog.info? 24).map (·.size) = some 3 := by kernel_rfl
/-- The result is a type in the newest block. -/
theorem ty_new' {fn : Func} {s : Tmp} (hres : fn.results = #[.cell s 24]) (w W : World) (tmps : Array Value) (c0 c1 c2 : Value) (R : Ending → World → Prop) (hp : tmps.getD s undef = .pointer (some ⟨W.heap.size, 0, none⟩)) (hb : Below w.heap.size w W)
    (h : ∀ Z, Below w.heap.size w Z → R (.returned (.agg #[c0, c1, c2])) Z) :
    bodyPost Tryz.prog fn R .ret { tmps := tmps, defers := [] } (W.alloc (.cells #[c0, c1, c2] 24)) := by
  have := results_cell_row (P := Tryz.prog) hres tmps (W.alloc (.cells #[c0, c1, c2] 24)) W.heap.size 24 #[c0, c1, c2] (0, 0) _ hp (heap_alloc_new W _) Tryz.underlying24 rfl Tryz.typeSize'
  exact bodyPost_ret this rfl (h _ (hb.alloc hb.size _))
theorem vv_zero (u v : Value) (p : Int) : vv 0 u v p = .agg #[.int .u64 0, .int .u64 0, .int .u64 0, .int .u64 0, u, v, .int .i64 p] := by
  show Value.agg _ = _
  rw [show M.pt 0 0 = 0 by decide +kernel, show M.pt 1 0 = 0 by decide +kernel, show M.pt 2 0 = 0 by decide +kernel, show M.pt 3 0 = 0 by decide +kernel]

theorem nonum_any (N lb lu : Nat) (p : Int) (ab : Option Addr) (cb : Nat) (au : Option Addr) (cu : Nat) (w : World) :
    Calls Tryz.prog 113 #[vv N (.slice ab lb cb) (.slice au lu cu) p] w fun e w' => e = .returned (.agg #[.int .u64 0, .int .u64 0, .int .u64 0, .int .u64 0, .slice ab lb cb, .slice au lu cu, .int .i64 p]) ∧ Below w.heap.size w w' := by
  go_enter Tryz.func113, Tryz.ntmps113
  go_wp2_with fail
  refine va_new rfl w _ _ _ _ _ _ _ _ _ _ ?_ ((Below.refl _ w).alloc (Nat.le_refl _) _) (fun Z hZ => ⟨rfl, hZ⟩)
  simp
theorem nobits_any (N lb lu : Nat) (p : Int) (ab : Option Addr) (cb : Nat) (au : Option Addr) (cu : Nat) (w : World) :
    Calls Tryz.prog 130 #[vv N (.slice ab lb cb) (.slice au lu cu) p] w fun e w' => e = .returned (.agg #[.int .u64 (M.pt 0 N), .int .u64 (M.pt 1 N), .int .u64 (M.pt 2 N), .int .u64 (M.pt 3 N), .slice none 0 0, .slice au lu cu, .int .i64 p]) ∧ Below w.heap.size w w' := by
  go_enter Tryz.func130, Tryz.ntmps130
  go_wp2_with fail
  refine va_new rfl w _ _ _ _ _ _ _ _ _ _ ?_ ((Below.refl _ w).alloc (Nat.le_refl _) _) (fun Z hZ => ⟨rfl, hZ⟩)
  simp
theorem noitems_any (N lb lu : Nat) (p : Int) (ab : Option Addr) (cb : Nat) (au : Option Addr) (cu : Nat) (w : World) :
    Calls Tryz.prog 123 #[vv N (.slice ab lb cb) (.slice au lu cu) p] w fun e w' => e = .returned (.agg #[.int .u64 (M.pt 0 N), .int .u64 (M.pt 1 N), .int .u64 (M.pt 2 N), .int .u64 (M.pt 3 N), .slice ab lb cb, .slice none 0 0, .int .i64 p]) ∧ Below w.heap.size w w' := by
  go_enter Tryz.func123, Tryz.ntmps123
  go_wp2_with fail
  refine va_new rfl w _ _ _ _ _ _ _ _ _ _ ?_ ((Below.refl _ w).alloc (Nat.le_refl _) _) (fun Z hZ => ⟨rfl, hZ⟩)
  simp
set_option maxRecDepth 100000 in
theorem nopick_any (N lb lu : Nat) (p : Int) (ab : Option Addr) (cb : Nat) (au : Option Addr) (cu : Nat) (w : World) :
    Calls Tryz.prog 137 #[vv N (.slice ab lb cb) (.slice au lu cu) p] w fun e w' => e = .returned (.agg #[.int .u64 (M.pt 0 N), .int .u64 (M.pt 1 N), .int .u64 (M.pt 2 N), .int .u64 (M.pt 3 N), .slice ab lb cb, .slice none 0 0, .int .i64 0]) ∧ Below w.heap.size w w' := by
  have HI := Lib.hid (fun W => noitems_any N lb lu 0 ab cb au cu W)
  go_enter Tryz.func137, Tryz.ntmps137
  go_wp2_with fail
  refine (HI.out _).mono ?_
  rintro e w1 ⟨rfl, hb1⟩
  have c0 : w1.cell? ⟨w.heap.size + 1, 0, none⟩ = some (.int .u64 0) := (hb1.cell (p := ⟨w.heap.size + 1, 0, none⟩) (by simp)).trans (by simp [go_sem])
  have z0 : w1.frozen? ⟨w.heap.size + 1, 0, none⟩ = false := (hb1.frozen (p := ⟨w.heap.size + 1, 0, none⟩) (by simp)).trans (by simp [go_sem])
  have c1 : w1.cell? ⟨w.heap.size + 1, 1, none⟩ = some (.int .u64 0) := (hb1.cell (p := ⟨w.heap.size + 1, 1, none⟩) (by simp)).trans (by simp [go_sem])
  have z1 : w1.frozen? ⟨w.heap.size + 1, 1, none⟩ = false := (hb1.frozen (p := ⟨w.heap.size + 1, 1, none⟩) (by simp)).trans (by simp [go_sem])
  have c2 : w1.cell? ⟨w.heap.size + 1, 2, none⟩ = some (.int .u64 0) := (hb1.cell (p := ⟨w.heap.size + 1, 2, none⟩) (by simp)).trans (by simp [go_sem])
  have z2 : w1.frozen? ⟨w.heap.size + 1, 2, none⟩ = false := (hb1.frozen (p := ⟨w.heap.size + 1, 2, none⟩) (by simp)).trans (by simp [go_sem])
  have c3 : w1.cell? ⟨w.heap.size + 1, 3, none⟩ = some (.int .u64 0) := (hb1.cell (p := ⟨w.heap.size + 1, 3, none⟩) (by simp)).trans (by simp [go_sem])
  have z3 : w1.frozen? ⟨w.heap.size + 1, 3, none⟩ = false := (hb1.frozen (p := ⟨w.heap.size + 1, 3, none⟩) (by simp)).trans (by simp [go_sem])
  have c4 : w1.cell? ⟨w.heap.size + 1, 4, none⟩ = some (.slice none 0 0) := (hb1.cell (p := ⟨w.heap.size + 1, 4, none⟩) (by simp)).trans (by simp [go_sem])
  have z4 : w1.frozen? ⟨w.heap.size + 1, 4, none⟩ = false := (hb1.frozen (p := ⟨w.heap.size + 1, 4, none⟩) (by simp)).trans (by simp [go_sem])
  have c5 : w1.cell? ⟨w.heap.size + 1, 5, none⟩ = some (.slice none 0 0) := (hb1.cell (p := ⟨w.heap.size + 1, 5, none⟩) (by simp)).trans (by simp [go_sem])
  have z5 : w1.frozen? ⟨w.heap.size + 1, 5, none⟩ = false := (hb1.frozen (p := ⟨w.heap.size + 1, 5, none⟩) (by simp)).trans (by simp [go_sem])
  have c6 : w1.cell? ⟨w.heap.size + 1, 6, none⟩ = some (.int .i64 0) := (hb1.cell (p := ⟨w.heap.size + 1, 6, none⟩) (by simp)).trans (by simp [go_sem])
  have z6 : w1.frozen? ⟨w.heap.size + 1, 6, none⟩ = false := (hb1.frozen (p := ⟨w.heap.size + 1, 6, none⟩) (by simp)).trans (by simp [go_sem])
  have hz := hb1.size
  simp only [World.size_alloc] at hz
  replace hb1 := (two_boxes' w _ _).trans (hb1.mono (by simp; omega))
  have HZ := Lib.hid hz
  clear hz
  go_wp2_with fail
  refine bodyPost_ret (v := .agg #[.int .u64 (M.pt 0 N), .int .u64 (M.pt 1 N), .int .u64 (M.pt 2 N), .int .u64 (M.pt 3 N), .slice ab lb cb, .slice none 0 0, .int .i64 0]) ?_ rfl ⟨rfl, ?_⟩
  · simp [results, Tryz.results137, go_sem, c0, c1, c2, c3, c4, c5, c6]
  · have hs : ∀ (W : World) (i : Nat) (u : Value), Below w.heap.size w W → Below w.heap.size w (W.setCell ⟨w.heap.size + 1, i, none⟩ u) := fun W i u h => h.setCell (p := ⟨w.heap.size + 1, i, none⟩) (by simp) u
    exact hs _ _ _ (hs _ _ _ (hs _ _ _ (hs _ _ _ (hs _ _ _ (hs _ _ _ (hs _ _ _ hb1))))))
theorem rest_1 : RestC 1 113 := fun N lb lu p ab cb au cu w _ _ _ => (nonum_any N lb lu p ab cb au cu w).mono fun _ _ ⟨h1, h2⟩ => ⟨0, lb, lu, p, ab, cb, au, cu, h1.trans (by rw [vv_zero]), ⟨by simp, by simp, by simp, by simp⟩, h2⟩
theorem rest_2 : RestC 2 113 := fun N lb lu p ab cb au cu w _ _ _ => (nonum_any N lb lu p ab cb au cu w).mono fun _ _ ⟨h1, h2⟩ => ⟨0, lb, lu, p, ab, cb, au, cu, h1.trans (by rw [vv_zero]), ⟨by simp, by simp, by simp, by simp⟩, h2⟩
theorem rest_3 : RestC 3 123 := fun N lb lu p ab cb au cu w _ _ _ => (noitems_any N lb lu p ab cb au cu w).mono fun _ _ ⟨h1, h2⟩ => ⟨N, lb, 0, p, ab, cb, none, 0, h1.trans (rfl), ⟨by simp, by simp, by simp, by simp⟩, h2⟩
theorem rest_4 : RestC 4 123 := fun N lb lu p ab cb au cu w _ _ _ => (noitems_any N lb lu p ab cb au cu w).mono fun _ _ ⟨h1, h2⟩ => ⟨N, lb, 0, p, ab, cb, none, 0, h1.trans (rfl), ⟨by simp, by simp, by simp, by simp⟩, h2⟩
theorem rest_5 : RestC 5 130 := fun N lb lu p ab cb au cu w _ _ _ => (nobits_any N lb lu p ab cb au cu w).mono fun _ _ ⟨h1, h2⟩ => ⟨N, 0, lu, p, none, 0, au, cu, h1.trans (rfl), ⟨by simp, by simp, by simp, by simp⟩, h2⟩
theorem rest_6 : RestC 6 130 := fun N lb lu p ab cb au cu w _ _ _ => (nobits_any N lb lu p ab cb au cu w).mono fun _ _ ⟨h1, h2⟩ => ⟨N, 0, lu, p, none, 0, au, cu, h1.trans (rfl), ⟨by simp, by simp, by simp, by simp⟩, h2⟩
theorem rest_7 : RestC 7 123 := fun N lb lu p ab cb au cu w _ _ _ => (noitems_any N lb lu p ab cb au cu w).mono fun _ _ ⟨h1, h2⟩ => ⟨N, lb, 0, p, ab, cb, none, 0, h1.trans (rfl), ⟨by simp, by simp, by simp, by simp⟩, h2⟩
theorem rest_8 : RestC 8 137 := fun N lb lu p ab cb au cu w _ _ _ => (nopick_any N lb lu p ab cb au cu w).mono fun _ _ ⟨h1, h2⟩ => ⟨N, lb, 0, 0, ab, cb, none, 0, h1.trans (rfl), ⟨by simp, by simp, by simp, by simp⟩, h2⟩
/-- How many bytes beside those of its items, and how many items of each type. -/
def M.ownI (k n : Int) : Int := if k = 1 then n else if k = 2 then 1 else if k = 5 then (n + 7) / 8 else 0
def M.eachI (k n : Int) : Int := if k = 3 then n else if k = 7 then 1 else 0
def SizeC (k : Int) (g : FuncId) : Prop := ∀ (n : Int) (v : Value) (w : World), 0 ≤ n → n ≤ 512 →
  Calls Tryz.prog g #[tv k n v] w fun e w' => e = .returned (.tuple #[.int .i64 (M.ownI k n), .int .i64 (M.eachI k n)]) ∧ Below w.heap.size w w'
theorem size_1 : SizeC 1 109 := by
  intro n v w h0 h1
  have hb0 : Below w.heap.size w (w.alloc (.cells #[.int .i64 1, .int .i64 n, v] 24)) := by (repeat (first | exact Below.refl _ _ | refine Below.drew ?_ | refine Below.alloc ?_ (by first | omega | (simp; omega) | simp) _ | refine Below.setCell ?_ (by first | omega | (simp; omega) | simp) _))
  go_enter Tryz.func109, Tryz.ntmps109
  go_wp2_with fail
  go_ret2
  exact ⟨by simp [M.ownI, M.eachI], hb0⟩
theorem size_2 : SizeC 2 115 := by
  intro n v w h0 h1
  have hb0 : Below w.heap.size w (w.alloc (.cells #[.int .i64 2, .int .i64 n, v] 24)) := by (repeat (first | exact Below.refl _ _ | refine Below.drew ?_ | refine Below.alloc ?_ (by first | omega | (simp; omega) | simp) _ | refine Below.setCell ?_ (by first | omega | (simp; omega) | simp) _))
  go_enter Tryz.func115, Tryz.ntmps115
  go_wp2_with fail
  go_ret2
  exact ⟨by simp [M.ownI, M.eachI], hb0⟩
theorem size_3 : SizeC 3 120 := by
  intro n v w h0 h1
  have hb0 : Below w.heap.size w (w.alloc (.cells #[.int .i64 3, .int .i64 n, v] 24)) := by (repeat (first | exact Below.refl _ _ | refine Below.drew ?_ | refine Below.alloc ?_ (by first | omega | (simp; omega) | simp) _ | refine Below.setCell ?_ (by first | omega | (simp; omega) | simp) _))
  go_enter Tryz.func120, Tryz.ntmps120
  go_wp2_with fail
  go_quiet (fail)
  go_wp2_with fail
  go_ret2
  exact ⟨by simp [M.ownI, M.eachI], ⟨hb0.os, hb0.tape, hb0.output, hb0.size, hb0.block⟩⟩
theorem size_5 : SizeC 5 127 := by
  intro n v w h0 h1
  have hb0 : Below w.heap.size w (w.alloc (.cells #[.int .i64 5, .int .i64 n, v] 24)) := by (repeat (first | exact Below.refl _ _ | refine Below.drew ?_ | refine Below.alloc ?_ (by first | omega | (simp; omega) | simp) _ | refine Below.setCell ?_ (by first | omega | (simp; omega) | simp) _))
  have h7 : wrap64 (n + 7) = n + 7 := by unfold wrap64; omega
  have h8 : wrap64 ((n + 7).tdiv 8) = (n + 7) / 8 := by rw [Int.tdiv_eq_ediv_of_nonneg (by omega)]; unfold wrap64; omega
  go_enter Tryz.func127, Tryz.ntmps127
  go_wp2_with fail
  go_ret2
  exact ⟨by simp [M.ownI, M.eachI], hb0⟩
theorem size_7 : SizeC 7 133 := by
  intro n v w h0 h1
  have hb0 : Below w.heap.size w (w.alloc (.cells #[.int .i64 7, .int .i64 n, v] 24)) := by (repeat (first | exact Below.refl _ _ | refine Below.drew ?_ | refine Below.alloc ?_ (by first | omega | (simp; omega) | simp) _ | refine Below.setCell ?_ (by first | omega | (simp; omega) | simp) _))
  go_enter Tryz.func133, Tryz.ntmps133
  go_wp2_with fail
  go_ret2
  exact ⟨by simp [M.ownI, M.eachI], hb0⟩
/-- What a function that tells the type of an item must do. -/
def OfC (k : Int) (g : FuncId) : Prop := ∀ (n : Int) (t c b o : Nat) (p : Int) (i j : Nat) (k' m' : Int) (au : Option Addr) (ul cu : Nat) (w : World), j < t → b < w.heap.size → t ≤ 1000 →
  ((k = 7 ∧ i = j) ∨ (k ≠ 7 ∧ k = 8 ∧ p = j) ∨ (k ≠ 7 ∧ k ≠ 8 ∧ j = 0)) →
  w.cell? ⟨b, o + j * 3, none⟩ = some (.int .i64 k') → w.cell? ⟨b, o + j * 3 + 1, none⟩ = some (.int .i64 m') → w.cell? ⟨b, o + j * 3 + 2, none⟩ = some (.slice au ul cu) →
  Calls Tryz.prog g #[tv k n (.slice (some ⟨b, o, none⟩) t c), .int .i64 p, .int .i64 i] w fun e w' => e = .returned (tv k' m' (.slice au ul cu)) ∧ Below w.heap.size w w'
set_option maxRecDepth 100000 in
set_option maxHeartbeats 4000000 in
theorem of_3 : OfC 3 124 := by
  intro n t c b o p i j k' m' au ul cu w hj hbn ht hi e0 e1 e2
  obtain rfl : j = 0 := by omega
  have hb0 : ∀ o o', Below w.heap.size w ((w.alloc o).alloc o') := fun o o' => ((Below.refl _ w).alloc (Nat.le_refl _) o).alloc (by simp) o'
  have g0 := fun o1 o2 => ((hb0 o1 o2).cell (p := ⟨b, o + 0 * 3, none⟩) hbn).trans e0
  have g1 := fun o1 o2 => ((hb0 o1 o2).cell (p := ⟨b, o + 0 * 3 + 1, none⟩) hbn).trans e1
  have g2 := fun o1 o2 => ((hb0 o1 o2).cell (p := ⟨b, o + 0 * 3 + 2, none⟩) hbn).trans e2
  simp only [Nat.zero_mul, Nat.add_zero] at g0 g1 g2
  clear e0 e1 e2 hi
  go_enter Tryz.func124, Tryz.ntmps124
  go_wp2_with fail
  refine ty_new' rfl w _ _ _ _ _ _ ?_ ((Below.refl _ w).alloc (Nat.le_refl _) _) (fun Z hZ => ⟨rfl, hZ⟩)
  simp
set_option maxRecDepth 100000 in
set_option maxHeartbeats 4000000 in
theorem of_4 : OfC 4 124 := by
  intro n t c b o p i j k' m' au ul cu w hj hbn ht hi e0 e1 e2
  obtain rfl : j = 0 := by omega
  have hb0 : ∀ o o', Below w.heap.size w ((w.alloc o).alloc o') := fun o o' => ((Below.refl _ w).alloc (Nat.le_refl _) o).alloc (by simp) o'
  have g0 := fun o1 o2 => ((hb0 o1 o2).cell (p := ⟨b, o + 0 * 3, none⟩) hbn).trans e0
  have g1 := fun o1 o2 => ((hb0 o1 o2).cell (p := ⟨b, o + 0 * 3 + 1, none⟩) hbn).trans e1
  have g2 := fun o1 o2 => ((hb0 o1 o2).cell (p := ⟨b, o + 0 * 3 + 2, none⟩) hbn).trans e2
  simp only [Nat.zero_mul, Nat.add_zero] at g0 g1 g2
  clear e0 e1 e2 hi
  go_enter Tryz.func124, Tryz.ntmps124
  go_wp2_with fail
  refine ty_new' rfl w _ _ _ _ _ _ ?_ ((Below.refl _ w).alloc (Nat.le_refl _) _) (fun Z hZ => ⟨rfl, hZ⟩)
  simp
set_option maxRecDepth 100000 in
set_option maxHeartbeats 4000000 in
theorem of_7 : OfC 7 135 := by
  intro n t c b o p i j k' m' au ul cu w hj hbn ht hi e0 e1 e2
  obtain rfl : i = j := by omega
  have hb0 : ∀ o o', Below w.heap.size w ((w.alloc o).alloc o') := fun o o' => ((Below.refl _ w).alloc (Nat.le_refl _) o).alloc (by simp) o'
  have g0 := fun o1 o2 => ((hb0 o1 o2).cell (p := ⟨b, o + i * 3, none⟩) hbn).trans e0
  have g1 := fun o1 o2 => ((hb0 o1 o2).cell (p := ⟨b, o + i * 3 + 1, none⟩) hbn).trans e1
  have g2 := fun o1 o2 => ((hb0 o1 o2).cell (p := ⟨b, o + i * 3 + 2, none⟩) hbn).trans e2
  clear e0 e1 e2 hi
  go_enter Tryz.func135, Tryz.ntmps135
  go_wp2_with fail
  refine ty_new' rfl w _ _ _ _ _ _ ?_ ((Below.refl _ w).alloc (Nat.le_refl _) _) (fun Z hZ => ⟨rfl, hZ⟩)
  simp
set_option maxRecDepth 100000 in
set_option maxHeartbeats 4000000 in
theorem of_8 : OfC 8 138 := by
  intro n t c b o p i j k' m' au ul cu w hj hbn ht hi e0 e1 e2
  obtain rfl : p = j := by omega
  have hb0 : ∀ o o', Below w.heap.size w ((w.alloc o).alloc o') := fun o o' => ((Below.refl _ w).alloc (Nat.le_refl _) o).alloc (by simp) o'
  have g0 := fun o1 o2 => ((hb0 o1 o2).cell (p := ⟨b, o + j * 3, none⟩) hbn).trans e0
  have g1 := fun o1 o2 => ((hb0 o1 o2).cell (p := ⟨b, o + j * 3 + 1, none⟩) hbn).trans e1
  have g2 := fun o1 o2 => ((hb0 o1 o2).cell (p := ⟨b, o + j * 3 + 2, none⟩) hbn).trans e2
  clear e0 e1 e2 hi
  go_enter Tryz.func138, Tryz.ntmps138
  go_wp2_with fail
  refine ty_new' rfl w _ _ _ _ _ _ ?_ ((Below.refl _ w).alloc (Nat.le_refl _) _) (fun Z hZ => ⟨rfl, hZ⟩)
  simp
end Go.Proofs.YtgloapcfmlijlaaGreatDoor
namespace Go.Proofs.YtgloapcfmlijlaaGreatDoor
open Go Go.RowKit Go.Shelf
attribute [local go_sem] Oper.semAt_some

theorem size_at (j : Nat) (hj : j < 8) (hf : ¬ (j + 1 = 4 ∨ j + 1 = 6 ∨ j + 1 = 8)) : ∃ g, sizeV (j + 1) = .func (.func g) #[] #[] ∧ SizeC ((j + 1 : Nat) : Int) g ∧ ∀ args w, (callFunc g args).run Tryz.prog w = .ok (.enter g args) w := by
  match j, hj with
  | 0, _ => exact ⟨_, rfl, size_1, enters_of Tryz.func109 (by kernel_rfl) rfl⟩
  | 1, _ => exact ⟨_, rfl, size_2, enters_of Tryz.func115 (by kernel_rfl) rfl⟩
  | 2, _ => exact ⟨_, rfl, size_3, enters_of Tryz.func120 (by kernel_rfl) rfl⟩
  | 3, _ => exact absurd (.inl rfl) hf
  | 4, _ => exact ⟨_, rfl, size_5, enters_of Tryz.func127 (by kernel_rfl) rfl⟩
  | 5, _ => exact absurd (.inr (.inl rfl)) hf
  | 6, _ => exact ⟨_, rfl, size_7, enters_of Tryz.func133 (by kernel_rfl) rfl⟩
  | 7, _ => exact absurd (.inr (.inr rfl)) hf
theorem own_each {k n : Int} {ins : List M.Ty} (h : ∃ e, M.chkT e (.mk k n ins) = 0) : M.ownI k n = (M.oneN (.mk k n ins) : Nat) ∧ M.eachI k n = (M.eachN (.mk k n ins) : Nat) ∧ 0 ≤ n ∧ n ≤ 512 := by
  obtain ⟨e, h⟩ := h
  have hk := (M.chkT_ok.1 h).2.1
  have h8 := (M.chkT_ok.1 h).1
  have hn : 0 ≤ n ∧ n ≤ 512 := by
    unfold M.formT at hk
    split at hk
    · simp at hk; omega
    · split at hk
      · simp at hk; omega
      · split at hk
        · simp at hk; omega
        · split at hk
          · simp at hk; omega
          · split at hk
            · simp at hk; omega
            · simp at hk; omega
  refine ⟨?_, ?_, hn⟩
  · unfold M.ownI
    rw [M.oneN]
    split
    · omega
    · split
      · rfl
      · split
        · omega
        · rfl
  · unfold M.eachI
    rw [M.eachN]
    split
    · omega
    · split
      · rfl
      · rfl

/-- Between two rounds: the sum, and how many at each depth. -/
structure SI (w : World) (b bt : Nat) (k n : Int) (v : Value) (st : M.St) (W : World) : Prop where
  below : Below w.heap.size w W
  m : Boxed W w.heap.size 78 (.map (some b))
  t : BoxT W bt k n v
  s : Boxed W (w.heap.size + 2) 3 (.int .i64 (st.1 : Nat))
  mc : ∀ i, i < 7 → W.cell? ⟨w.heap.size + 3, i, none⟩ = some (.int .i64 (st.2 i : Nat))
  mf : ∀ i, i < 7 → W.frozen? ⟨w.heap.size + 3, i, none⟩ = false
theorem SI_own {w : World} {b bt : Nat} {k n : Int} {v : Value} {B : Nat} (hB : w.heap.size ≤ B) : OwnFrom B fun (st : M.St) W => SI w b bt k n v st W := fun _ _ _ _ h hg hrow =>
  have hr := fun r e => (hrow r e).2
  ⟨below_kept h.below hg (fun r e => Nat.le_trans hB (hrow r e).1), boxed_kept' h.m hg hr, boxT_kept h.t hg hr, boxed_kept' h.s hg hr, fun i hi => cell_kept (h.mc i hi) hg hr, fun i hi => (frozen_kept (h.mc i hi) hg hr).trans (h.mf i hi)⟩
theorem SI.go {w B W2 : World} {b bt : Nat} {k n : Int} {v : Value} {st : M.St} (h : SI w b bt k n v st B) (hb : Below B.heap.size B W2) (h3 : w.heap.size + 3 < B.heap.size) : SI w b bt k n v st W2 :=
  ⟨h.below.trans (hb.mono h.below.size), (hb.block _ h.m.lt).trans h.m, h.t.from_ hb h.t.lt', (hb.block _ h.s.lt).trans h.s, fun i hi => (hb.cell (p := ⟨w.heap.size + 3, i, none⟩) h3).trans (h.mc i hi), fun i hi => (hb.frozen (p := ⟨w.heap.size + 3, i, none⟩) h3).trans (h.mf i hi)⟩
def stO (pre : List El) : M.St := (pre.map (·.1)).foldl M.stp M.st0
theorem stO_next (pre : List El) (x : El) : stO (pre ++ [x]) = M.stp (stO pre) x.1 := by unfold stO; rw [List.map_append, List.foldl_append]; rfl
def SAx (w : World) (b bt : Nat) (k0 n0 : Int) (v0 : Value) (L0 : List (Nat × M.Ty)) (A1 : Nat → El → Act) (pre : List El) (x : El) (a' : Act) (B : World) : Prop :=
  ∃ (bx : Nat) (k n : Int) (us : List M.Ty), x.1.2 = .mk k n us ∧ GoodEl w L0 pre x ∧ a' = A1 bx x ∧ SI w b bt k0 n0 v0 (stO pre) B ∧ BoxT B bx k n x.2 ∧ w.heap.size + 5 ≤ bx ∧ bx < B.heap.size
theorem SAx_own {w : World} {b bt B : Nat} {k0 n0 : Int} {v0 : Value} (hB : w.heap.size ≤ B) {L0 : List (Nat × M.Ty)} {A1 : Nat → El → Act} (pre : List El) (x : El) (a' : Act) : OwnFrom B fun (_ : Unit) W => SAx w b bt k0 n0 v0 L0 A1 pre x a' W := by
  rintro _ W W' row ⟨bx, k, n, us, h1, h2, h3, h4, h5, h6, h7⟩ hg hrow
  exact ⟨bx, k, n, us, h1, h2, h3, SI_own hB _ _ _ row h4 hg hrow, boxT_kept h5 hg (fun r e => (hrow r e).2), h6, Nat.lt_of_lt_of_le h7 hg.size⟩

set_option maxRecDepth 100000 in
set_option maxHeartbeats 8000000 in
theorem ksize_any (k n : Int) (xs : List M.Ty) (a : Option Addr) (cap b : Nat) (cs : List Nat) (w : World) (hL : LayT w w.heap.size xs (.slice a xs.length cap)) (hc : M.cntT (.mk k n xs) ≤ 1000) (hK : Kinds w w.heap.size b cs)
    (hchk : M.chkT 0 (.mk k n xs) = 0) (hfix : M.fixT (.mk k n xs) = true) :
    Calls Tryz.prog 153 #[.map (some b), tv k n (.slice a xs.length cap)] w fun e w' => e = .returned (.int .i64 (M.szT (.mk k n xs) : Nat)) ∧ Below w.heap.size w w' := by
  have hro : Fence.wide.round = none := rfl
  obtain ⟨r, hr⟩ : ∃ r, r = M.szT (.mk k n xs) := ⟨_, rfl⟩
  rw [← hr]
  refine (callsIn_wide (n := 6)).1 ?_
  refine callsIn_of_wp_marks Tryz.func153 rfl trivial ?_ rfl
  simp only [Tryz.ntmps153, List.size_toArray, List.length_cons, List.length_nil, Nat.reduceAdd, Nat.reduceSub, Array.replicate_succ, Array.replicate_zero, List.push_toArray, List.append_toArray, List.nil_append, List.cons_append]
  gi_wp2_with fail
  refine ⟨trivial, (within_in _ k n (.slice a xs.length cap) _).mono ?_⟩
  rintro e w' ⟨rfl, rfl⟩
  obtain ⟨W0, hW0⟩ : ∃ W0, (((w.alloc (.cells #[.map (some b)] 78)).alloc (.cells #[.int .i64 k, .int .i64 n, .slice a xs.length cap] 24)).alloc (.cells #[.int .i64 0] 3)).alloc (.cells #[.int .i64 1, .int .i64 0, .int .i64 0, .int .i64 0, .int .i64 0, .int .i64 0, .int .i64 0] 173) = W0 := ⟨_, rfl⟩
  rw [hW0]
  have hz0 : W0.heap.size = w.heap.size + 4 := by rw [← hW0]; simp
  rw [hz0]
  generalize hW1 : W0.alloc (.cells #[.int .i64 k, .int .i64 n, .slice a xs.length cap] 24) = W1
  have hz1 : W1.heap.size = w.heap.size + 5 := by rw [← hW1]; simp; omega
  have hI1 : SI w b (w.heap.size + 4) k n (.slice a xs.length cap) (stO []) W1 := by
    have hb1 : Below w.heap.size w W0 := by rw [← hW0]; (repeat (first | exact Below.refl _ _ | refine Below.drew ?_ | refine Below.alloc ?_ (by first | omega | (simp; omega) | simp) _ | refine Below.setCell ?_ (by first | omega | (simp; omega) | simp) _))
    have h1 : Boxed W0 w.heap.size 78 (.map (some b)) := by rw [← hW0]; exact (((Boxed.new w _ _).alloc _).alloc _).alloc _
    have h2 : Boxed W0 (w.heap.size + 2) 3 (.int .i64 0) := by
      rw [← hW0]
      have := Boxed.new ((w.alloc (.cells #[.map (some b)] 78)).alloc (.cells #[.int .i64 k, .int .i64 n, .slice a xs.length cap] 24)) 3 (.int .i64 0)
      rw [World.size_alloc, World.size_alloc] at this
      exact this.alloc _
    have h3 : W0.heap[w.heap.size + 3]? = some (.cells #[.int .i64 1, .int .i64 0, .int .i64 0, .int .i64 0, .int .i64 0, .int .i64 0, .int .i64 0] 173 (0, 0)) := by
      rw [← hW0]
      have := World.alloc_heap_new (((w.alloc (.cells #[.map (some b)] 78)).alloc (.cells #[.int .i64 k, .int .i64 n, .slice a xs.length cap] 24)).alloc (.cells #[.int .i64 0] 3)) (.cells #[.int .i64 1, .int .i64 0, .int .i64 0, .int .i64 0, .int .i64 0, .int .i64 0, .int .i64 0] 173)
      rw [World.size_alloc, World.size_alloc, World.size_alloc] at this
      exact this
    have hbW : Below W0.heap.size W0 W1 := by rw [← hW1]; exact (Below.refl _ _).alloc (Nat.le_refl _) _
    have h4 : W1.heap[w.heap.size + 3]? = _ := (hbW.block _ (by omega)).trans h3
    refine ⟨hb1.trans (hbW.mono (by omega)), (hbW.block _ h1.lt).trans h1, ?_, (hbW.block _ h2.lt).trans h2, ?_, ?_⟩
    · rw [← hW1]
      have := BoxT.new W0 k n (.slice a xs.length cap) 24
      rw [hz0] at this
      exact this
    · intro i hi
      match i, hi with
      | 0, _ => simp [World.cell?, h4]; rfl
      | 1, _ => simp [World.cell?, h4]; rfl
      | 2, _ => simp [World.cell?, h4]; rfl
      | 3, _ => simp [World.cell?, h4]; rfl
      | 4, _ => simp [World.cell?, h4]; rfl
      | 5, _ => simp [World.cell?, h4]; rfl
      | 6, _ => simp [World.cell?, h4]; rfl
    · intro i hi
      simp [World.frozen?, h4]
  clear hW1 hW0
  gi_wp2_with fail
  obtain ⟨A1, hA1⟩ : ∃ A1 : Nat → El → Act, A1 = fun bx x => { tmps := #[.map (some b), tv k n (.slice a xs.length cap), .pointer (some ⟨w.heap.size, 0, none⟩), .pointer (some ⟨w.heap.size + 1, 0, none⟩), .int .i64 0, .pointer (some ⟨w.heap.size + 1 + 1, 0, none⟩), .pointer (some ⟨w.heap.size + 1 + 1 + 1, 0, none⟩), .int .i64 (x.1.1 : Nat), .pointer (some ⟨bx, 0, none⟩), undef, undef,
    .agg #[.int .i64 1, .int .i64 0, .int .i64 0, .int .i64 0, .int .i64 0, .int .i64 0, .int .i64 0], .agg #[.int .i64 k, .int .i64 n, .slice a xs.length cap], .func (.func 180) #[] #[.pointer (some ⟨w.heap.size + 4, 0, none⟩)], .int .i64 (x.1.1 : Nat), tv x.1.2.k x.1.2.n x.2,
    undef, undef, undef, undef, undef, undef, undef, undef, undef, undef, undef, undef, undef, undef, undef, undef, undef, undef, undef, undef, undef, undef, undef, undef, undef, undef], defers := [] } := ⟨_, rfl⟩
  have hw1 : w.heap.size ≤ W1.heap.size := by omega
  refine range_lw (gf := 180) (lb := #[.pointer (some ⟨w.heap.size + 4, 0, none⟩)]) (by omega) rfl (enters_of Tryz.func180 (by kernel_rfl) rfl)
    (encs := encT) (fun x => by obtain ⟨⟨d, ⟨k', n', us⟩⟩, v⟩ := x; rfl) (fun pre W => SI w b (w.heap.size + 4) k n (.slice a xs.length cap) (stO pre) W) (fun pre => SI_own hw1 (stO pre)) (fun _ _ => False) (fun _ _ _ _ h _ _ => h)
    (fun c => c ≠ W1.heap.size + 1 ∧ c ≠ w.heap.size + 2 ∧ c ≠ w.heap.size + 3) (fun c h => h.1) (AllOf (.mk k n xs) (fun _ => True)) (OneOf (.mk k n xs) (fun _ => True)) (fun _ => True)
    (fun pre x _ _ => GoodEl w (M.flat 0 (.mk k n xs)) pre x) ?seq hI1 (fun pre x a' B => SAx w b (w.heap.size + 4) k n (.slice a xs.length cap) (M.flat 0 (.mk k n xs)) A1 pre x a' B) (fun pre x a' => SAx_own hw1 pre x a') ?assign ?body ?done ?stop
  case seq =>
    intro l J Jx W hzW hJI hJ hY h0
    have HT : TellH w (M.flat 0 (.mk k n xs)) (fun c => c ≠ W1.heap.size + 1 ∧ c ≠ w.heap.size + 2 ∧ c ≠ w.heap.size + 3) (W1.heap.size + 2) l J Jx (fun _ => True) :=
      ⟨hJ, fun pre A h => (hJI pre A h).1.below, fun pre A h => (hJI pre A h).2, fun c hc => by omega, fun m pre x A hj hx => yieldAt_any (hY pre x A A hj ⟨rfl, rfl, rfl, Nat.le_refl _, fun _ _ _ => rfl⟩ hx)⟩
    exact within_seq w _ _ l J Jx _ k n xs HT _ a cap hL (by omega) _ W (hJI [] W h0).1.t h0
  case assign =>
    rintro l pre ⟨⟨d, ⟨k', n', us⟩⟩, v⟩ A B K hI hg hG hK'
    obtain ⟨ua, uc, hu, _, _⟩ := hG.1.slice
    replace hu : v = .slice ua us.length uc := hu
    subst hu
    dsimp only [encT]
    have hIB := SI_own (Nat.le_refl w.heap.size) (stO pre) _ _ none hI hg (fun r e => by cases e)
    have hzB := hIB.below.size
    have hz3 := (hIB.t.lt')
    have hAX : SAx w b (w.heap.size + 4) k n (.slice a xs.length cap) (M.flat 0 (.mk k n xs)) A1 pre ((d, .mk k' n' us), .slice ua us.length uc) (A1 B.heap.size ((d, .mk k' n' us), .slice ua us.length uc)) (B.alloc (.cells #[.int .i64 k', .int .i64 n', .slice ua us.length uc] 24)) :=
      ⟨B.heap.size, k', n', us, rfl, hG, rfl, SI_own (Nat.le_refl w.heap.size) (stO pre) _ _ none hIB (World.grownBy_alloc _ _ _) (fun r e => by cases e), BoxT.new _ _ _ _ _, by omega, by simp⟩
    rw [hA1] at hAX
    gi_wp2
    refine hK' _ _ ((KeepsOthers.alloc B _).from _) (fun c hc _ => Below.heap_alloc _ _ _ (by omega)) ?_
    rw [hA1]
    exact hAX
  case body =>
    rintro l pre ⟨⟨d, ⟨k', n', us⟩⟩, v⟩ a' B ⟨bx, k2, n2, us2, hx, hG, rfl, hI, hBx, h4, h5⟩
    cases hx
    replace hBx : BoxT B bx k' n' v := hBx
    obtain ⟨zs, hzs⟩ := hG.2.2
    obtain ⟨hd6, hex, _, hfx, b1, b2, b3, b4, b5, b6, b7⟩ := M.round_most hchk hfix hzs
    have hkr : 1 ≤ k' ∧ k' ≤ 8 := by obtain ⟨e, he⟩ := hex; exact (M.chkT_ok.1 he).1
    obtain ⟨ho, he, hn0, hn1⟩ := own_each hex
    obtain ⟨j, c, hkj, hj, hH, hlk⟩ := hK.at_ k' hkr.1 hkr.2
    obtain ⟨g, hs, hg, hen⟩ := size_at j hj (fun h => by
      have h1 := hfx
      unfold M.isFix at h1
      simp only [M.Ty.k, hkj] at h1
      rcases h with e | e | e <;> rw [e] at h1 <;> simp at h1)
    replace hlk := hlk false B hI.below
    simp only [ent] at hlk
    rw [hs] at hlk
    rw [← hkj] at hg
    have HG := Lib.hid (fun W => hg n' v W hn0 hn1)
    rw [ho, he] at HG
    have HI := Lib.hid hI
    have cm := hI.m.cell
    have c0 := hBx.c0
    have c1 := hBx.c1
    have c2 := hBx.c2
    have hstn := Lib.hid (stO_next pre ((d, .mk k' n' us), v))
    replace b1 : (stO pre).1 ≤ 1152921504606846976 := b1
    replace b2 : (stO pre).2 d * M.oneN (.mk k' n' us) ≤ 2251799813685248 := b2
    replace b3 : (stO pre).2 d * M.eachN (.mk k' n' us) ≤ 18014398509481984 := b3
    replace b4 : (stO pre).1 + (stO pre).2 d * M.oneN (.mk k' n' us) ≤ 1152921504606846976 := b4
    replace b5 : M.oneN (.mk k' n' us) ≤ 64 := b5
    replace b6 : M.eachN (.mk k' n' us) ≤ 512 := b6
    replace b7 : (stO pre).2 d ≤ 35184372088832 := b7
    replace hd6 : d < 6 := hd6
    have hst1 : Hid ((stO (pre ++ [((d, .mk k' n' us), v)])).1 = (stO pre).1 + (stO pre).2 d * M.oneN (.mk k' n' us)) := by show _ = _; rw [hstn.out]; rfl
    have hst2 : Hid (∀ i, (stO (pre ++ [((d, .mk k' n' us), v)])).2 i = if i = d + 1 then (stO pre).2 d * M.eachN (.mk k' n' us) else (stO pre).2 i) := by show ∀ i, _; intro i; rw [hstn.out]; rfl
    have sB : B.cell? ⟨w.heap.size + 1 + 1, 0, none⟩ = some (.int .i64 ((stO pre).1 : Nat)) := hI.s.cell
    have sF : B.frozen? ⟨w.heap.size + 1 + 1, 0, none⟩ = false := hI.s.frozen
    have mB : B.cell? ⟨w.heap.size + 1 + 1 + 1, d, none⟩ = some (.int .i64 ((stO pre).2 d : Nat)) := hI.mc d (by omega)
    have nB : B.cell? ⟨w.heap.size + 1 + 1 + 1, d + 1, none⟩ = some (.int .i64 ((stO pre).2 (d + 1) : Nat)) := hI.mc (d + 1) (by omega)
    have nF : B.frozen? ⟨w.heap.size + 1 + 1 + 1, d + 1, none⟩ = false := hI.mf (d + 1) (by omega)
    clear hstn
    generalize M.oneN (.mk k' n' us) = on at *
    generalize M.eachN (.mk k' n' us) = en at *
    obtain ⟨T0, hT0⟩ : ∃ q, q = (stO pre).1 := ⟨_, rfl⟩
    obtain ⟨md, hmd⟩ : ∃ q, q = (stO pre).2 d := ⟨_, rfl⟩
    obtain ⟨me, hme⟩ : ∃ q, q = (stO pre).2 (d + 1) := ⟨_, rfl⟩
    rw [← hT0] at sB b1 b4 hst1
    rw [← hmd] at mB b2 b3 b4 b7 hst1
    rw [← hme] at nB
    obtain ⟨P, hP⟩ : ∃ q, q = md * on := ⟨_, rfl⟩
    obtain ⟨Qn, hQ⟩ : ∃ q, q = md * en := ⟨_, rfl⟩
    obtain ⟨S, hS⟩ : ∃ q, q = T0 + P := ⟨_, rfl⟩
    rw [← hP] at b2 b4 hst1
    rw [← hQ] at b3
    rw [← hS] at b4 hst1
    have hst3 : Hid (∀ i, (stO (pre ++ [((d, .mk k' n' us), v)])).2 i = if i = d + 1 then Qn else (stO pre).2 i) := by show ∀ i, _; intro i; rw [hst2.out, ← hmd, ← hQ]
    have hPI : (md : Int) * (on : Int) = (P : Nat) := by rw [hP]; simp
    have hQI : (md : Int) * (en : Int) = (Qn : Nat) := by rw [hQ]; simp
    have k1 : IntKind.i64.wrap ((md : Int) * (on : Int)) = (P : Nat) := by rw [hPI, IntWalk.i64_in _ (by omega)]
    have k2 : IntKind.i64.wrap ((T0 : Int) + (P : Int)) = (S : Nat) := by rw [IntWalk.i64_in _ (by omega)]; omega
    have k3 : wrap64 ((md : Int) * (en : Int)) = (Qn : Nat) := by rw [hQI]; unfold wrap64; omega
    obtain ⟨d1, hd1e⟩ : ∃ d1, d1 = d + 1 := ⟨_, rfl⟩
    have hd1 : (d : Int) + 1 = (d1 : Nat) := by omega
    have hd7 : (d : Int) < 7 := by omega
    have hd8 : (d1 : Int) < 7 := by omega
    rw [← hd1e] at nB nF hst3
    rw [hA1]
    dsimp only [M.Ty.k, M.Ty.n]
    have hfk := field_kind
    clear hst2 hT0 hmd hme hP hQ hS hPI hQI hd1e b1 b2 b3 b4 b5 b6 b7
    clear hkj hI hkr hg hs hex hzs hG hn0 hn1 ho he hfx
    gi_wp2_with fail
    refine ⟨trivial, CallsIn.inRound l ((callsIn_wide.2 (HG.out _)).mono ?_)⟩
    rintro e w2 ⟨rfl, hb2⟩
    have hI2 := Lib.hid (HI.out.go hb2 (by omega))
    have tr := bcell hb2
    have sB2 := (tr.1 _ 0 (by omega : w.heap.size + 1 + 1 < B.heap.size)).trans sB
    have sF2 := (tr.2 _ 0 (by omega : w.heap.size + 1 + 1 < B.heap.size)).trans sF
    have mB2 := (tr.1 _ d (by omega : w.heap.size + 1 + 1 + 1 < B.heap.size)).trans mB
    have nB2 := (tr.1 _ d1 (by omega : w.heap.size + 1 + 1 + 1 < B.heap.size)).trans nB
    have nF2 := (tr.2 _ d1 (by omega : w.heap.size + 1 + 1 + 1 < B.heap.size)).trans nF
    clear tr sB sF mB nB nF cm c0 c1 c2 hlk HG
    have mixed : Tryz.prog.follows .mixedOrders = true := by kernel_rfl
    gi_wp2_with fail
    refine round_still_tail 7 mixed (by kernel_rfl) (by kernel_rfl) ?_
    simp only [List.take_succ_cons, List.take_zero, List.drop_succ_cons, List.drop_zero]
    repeat still_step
    refine wpStill_nil ?_
    change wpList _ _ _ _ _ w2.drew
    go_wp2_with fail
    have hne : ∀ i, (⟨w.heap.size + 1 + 1 + 1, i, none⟩ : Addr) ≠ ⟨w.heap.size + 1 + 1, 0, none⟩ := fun i e => by injection e with h; omega
    obtain ⟨w3, hw3⟩ : ∃ w3, (w2.setCell ⟨w.heap.size + 1 + 1, 0, none⟩ (.int .i64 (S : Nat))).drew = w3 := ⟨_, rfl⟩
    rw [hw3]
    have hko3 : KeepsOthers w2 w3 := by rw [← hw3]; exact (KeepsOthers.setCell _ _ _).trans (KeepsOthers.drew _)
    have hbl3 : ∀ c, c ≠ w.heap.size + 2 → w3.heap[c]? = w2.heap[c]? := fun c hc => by rw [← hw3]; exact Below.heap_setCell _ _ _ _ (by simp; omega)
    have hz3' : w3.heap.size = w2.heap.size := by rw [← hw3]; simp [World.setCell]
    have hBw3 : Below w.heap.size w w3 := by rw [← hw3]; exact (hI2.out.below.setCell (p := ⟨w.heap.size + 1 + 1, 0, none⟩) (by simp; omega) _).drew
    have hs3 : Boxed w3 (w.heap.size + 2) 3 (.int .i64 (S : Nat)) := by rw [← hw3]; exact hI2.out.s.set _
    have hc3 : ∀ i, w3.cell? ⟨w.heap.size + 3, i, none⟩ = w2.cell? ⟨w.heap.size + 3, i, none⟩ := fun i => World.cell?_of_block (a := ⟨w.heap.size + 3, i, none⟩) (hbl3 _ (by simp))
    have hf3 : ∀ i, w3.frozen? ⟨w.heap.size + 3, i, none⟩ = w2.frozen? ⟨w.heap.size + 3, i, none⟩ := fun i => by unfold World.frozen?; rw [hbl3 (w.heap.size + 3) (by omega)]
    have mB3 : w3.cell? ⟨w.heap.size + 1 + 1 + 1, d, none⟩ = some (.int .i64 (md : Nat)) := (hc3 d).trans mB2
    have nB3 : w3.cell? ⟨w.heap.size + 1 + 1 + 1, d1, none⟩ = some (.int .i64 (me : Nat)) := (hc3 d1).trans nB2
    have nF3 : w3.frozen? ⟨w.heap.size + 1 + 1 + 1, d1, none⟩ = false := (hf3 d1).trans nF2
    have HM3 : Hid (∀ i, i < 7 → w3.cell? ⟨w.heap.size + 3, i, none⟩ = some (.int .i64 ((stO pre).2 i : Nat)) ∧ w3.frozen? ⟨w.heap.size + 3, i, none⟩ = false) := fun i hi => ⟨(hc3 i).trans (hI2.out.mc i hi), (hf3 i).trans (hI2.out.mf i hi)⟩
    have HB3 := Lib.hid hbl3
    clear hw3 sB2 sF2 mB2 nB2 nF2 hne hc3 hf3 hbl3
    dsimp only [nrm]
    gi_wp2_with fail
    have hko : KeepsOthers B w2 := ⟨hb2.size, fun c o h _ => (hb2.block c (Array.getElem?_eq_some_iff.1 h).1).trans h⟩
    have hsc : ∀ c, c ≠ w.heap.size + 3 → (w3.setCell ⟨w.heap.size + 1 + 1 + 1, d1, none⟩ (.int .i64 (Qn : Nat))).heap[c]? = w3.heap[c]? := fun c hc => Below.heap_setCell _ _ _ _ (by simp; omega)
    have hall : ∀ c, c ≠ w.heap.size + 2 → c ≠ w.heap.size + 3 → (w3.setCell ⟨w.heap.size + 1 + 1 + 1, d1, none⟩ (.int .i64 (Qn : Nat))).heap[c]? = w2.heap[c]? := fun c h1 h2 => (hsc c h2).trans (HB3.out c h1)
    refine ⟨trivial, ((hko.trans hko3).trans (KeepsOthers.setCell _ _ _)).from _, fun c hc hT => (hall c hT.2.1 hT.2.2).trans (hb2.block c hc), hBw3.setCell (p := ⟨w.heap.size + 1 + 1 + 1, d1, none⟩) (by simp; omega) _, ?_, ?_, ?_, ?_, ?_⟩
    · exact (hall _ (by omega) (by omega)).trans hI2.out.m
    · have ht := hI2.out.t
      have hb := hall (w.heap.size + 4) (by omega) (by omega)
      exact ⟨(World.cell?_of_block (a := ⟨_, 0, none⟩) hb).trans ht.c0, (World.cell?_of_block (a := ⟨_, 1, none⟩) hb).trans ht.c1, (World.cell?_of_block (a := ⟨_, 2, none⟩) hb).trans ht.c2⟩
    · rw [hst1.out]
      exact (hsc _ (by omega)).trans hs3
    · intro i hi
      rw [hst3.out]
      by_cases hid : i = d1
      · rw [if_pos hid, hid]
        exact World.cell?_setCell_same' w3 ⟨w.heap.size + 1 + 1 + 1, d1, none⟩ _ (by rw [nB3]; rfl)
      · rw [if_neg hid]
        rw [← (HM3.out i hi).1]
        simp [go_sem]
    · intro i hi
      rw [← (HM3.out i hi).2]
      simp [go_sem]
  case done =>
    rintro D ys W hD ⟨hys, hon⟩ hI hKd
    have hE : M.szT (.mk k n xs) = (stO ys).1 := by
      rw [← M.flat_size hchk hfix, ← hys]
      rfl
    rw [hE] at hr
    have cs' : W.cell? ⟨w.heap.size + 1 + 1, 0, none⟩ = some (.int .i64 ((stO ys).1 : Nat)) := hI.s.cell
    have HI := Lib.hid hI
    have HR := Lib.hid hr
    clear hE hI hr
    gi_wp2
    refine ⟨by simp, .inl ⟨_, _, rfl, run_takeDeferred hKd, ?_⟩⟩
    refine ⟨.int .i64 ((stO ys).1 : Nat), ?_, by rw [HR.out], HI.out.below.trans (belowK_b (w := w) (Nat.le_refl _) W D _ _ (by omega) hKd rfl rfl)⟩
    simp [results, Tryz.f153, go_sem]
  case stop =>
    rintro D y W hD ⟨ys, zs, hfl, hon, hoff⟩ hX hKd
    exact hX.elim
end Go.Proofs.YtgloapcfmlijlaaGreatDoor
namespace Go.Proofs.YtgloapcfmlijlaaGreatDoor
open Go Go.RowKit

end Go.Proofs.YtgloapcfmlijlaaGreatDoor
namespace Go.Proofs.YtgloapcfmlijlaaGreatDoor
open Go Go.RowKit

end Go.Proofs.YtgloapcfmlijlaaGreatDoor
namespace Go.Proofs.YtgloapcfmlijlaaGreatDoor
open Go Go.RowKit

theorem two_boxes (w : World) (o o' : Obj) : Below w.heap.size w ((w.alloc o).alloc o') := ((Below.refl _ w).alloc (Nat.le_refl _) o).alloc (by simp) o'

end Go.Proofs.YtgloapcfmlijlaaGreatDoor
namespace Go.Proofs.YtgloapcfmlijlaaGreatDoor
open Go Go.RowKit Go.Shelf
attribute [local go_sem] Oper.semAt_some

/-- The four values of a word, by place. -/
def at4 (a0 a1 a2 a3 : Int) : Fin 4 → Int
  | 0 => a0
  | 1 => a1
  | 2 => a2
  | 3 => a3

abbrev enc4 (a0 a1 a2 a3 : Int) (i : Fin 4) : Array Value := #[.int .i64 (i.val : Int), .int .u64 (at4 a0 a1 a2 a3 i)]

/-- What a round that goes on keeps: the cells of one block. -/
def KeepsB (b : Nat) (W W' : World) : Prop := ∀ j, W'.cell? ⟨b, j, none⟩ = W.cell? ⟨b, j, none⟩
theorem keepsB_t {b : Nat} {A B C : World} (h : KeepsB b A B) (k : KeepsB b B C) : KeepsB b A C := fun j => (k j).trans (h j)
theorem keepsB_b {b : Nat} {w : World} (hb : b < w.heap.size) (W : World) (l : Nat) (o o' : Obj) (hl : w.heap.size ≤ l) (h : W.heap[l]? = some o) (h1 : o.isCells = false) (h2 : o.isWalk = false) : KeepsB b W (W.putObj l o') :=
  fun j => (belowK_b (n₀ := w.heap.size) (w := w) (Nat.le_refl _) W l o o' hl h h1 h2).cell (p := ⟨b, j, none⟩) hb

set_option maxHeartbeats 1000000 in
theorem top_in (F : Fence) (n : Nat) (hf : F.fn 179) (hro : F.round = none) (a0 a1 a2 a3 : Int) (w : World) :
    CallsIn F n Tryz.prog 179 #[wd a0 a1 a2 a3] w fun e w' =>
      e = .returned (.func (.func 213) #[] #[.pointer (some ⟨w.heap.size, 0, none⟩)]) ∧ w' = w.alloc (.cells #[.int .u64 a0, .int .u64 a1, .int .u64 a2, .int .u64 a3] 29) := by
  refine callsIn_of_wp Tryz.func179 rfl hf ?_ hro
  simp only [Tryz.ntmps179, List.size_toArray, List.length_cons, List.length_nil, Nat.reduceAdd, Nat.reduceSub, Array.replicate_succ, Array.replicate_zero, List.push_toArray, List.append_toArray, List.nil_append, List.cons_append]
  gi_wp2
  go_ret
  exact ⟨rfl, rfl⟩

set_option maxRecDepth 100000 in
set_option maxHeartbeats 2000000 in
theorem top_stops (F : Fence) (n : Nat) (hf : F.fn 213) (hro : F.round = none) (hn : 1 ≤ n) (Bn : Nat) (a0 a1 a2 a3 : Int) (w : World) (hBn : Bn < w.heap.size)
    (c0 : w.cell? ⟨Bn, 0, none⟩ = some (.int .u64 a0)) (c1 : w.cell? ⟨Bn, 1, none⟩ = some (.int .u64 a1)) (c2 : w.cell? ⟨Bn, 2, none⟩ = some (.int .u64 a2)) (c3 : w.cell? ⟨Bn, 3, none⟩ = some (.int .u64 a3)) :
    SeqStopsK F n Tryz.prog 213 #[.pointer (some ⟨Bn, 0, none⟩)] (enc4 a0 a1 a2 a3) (KeepsB Bn) (fun xs => xs = [3, 2, 1, 0]) (fun pre => pre = [3] ∨ pre = [3, 2] ∨ pre = [3, 2, 1] ∨ pre = [3, 2, 1, 0]) 4 w := fun l J Jx W hW _ _ hY h0 => by
  have d3 := (hW.cell (p := ⟨Bn, 3, none⟩) hBn).trans c3
  have d2 := (hW.cell (p := ⟨Bn, 2, none⟩) hBn).trans c2
  have d1 := (hW.cell (p := ⟨Bn, 1, none⟩) hBn).trans c1
  have d0 := (hW.cell (p := ⟨Bn, 0, none⟩) hBn).trans c0
  clear c0 c1 c2 c3
  refine callsIn_of_wp Tryz.func213 rfl hf ?_ hro
  simp only [Tryz.ntmps213, List.size_toArray, List.length_cons, List.length_nil, Nat.reduceAdd, Nat.reduceSub, Array.replicate_succ, Array.replicate_zero, List.push_toArray, List.append_toArray, List.nil_append, List.cons_append]
  gi_wp2
  refine wpIn_loop_rounds 5 ?_
  rw [roundsIn_succ]
  obtain ⟨f1, t1, as1, b1, hy1, hR1⟩ := hY [] 3 W h0 (by simp)
  replace hy1 : (Instr.yield l #[.int .i64 3, .int .u64 a3]).run Tryz.prog W = .ok (.round l f1 t1 as1 b1) W := hy1
  gi_wp2
  refine hR1.mono ?_
  clear hy1 hR1
  rintro e W1 (⟨rfl, hJ1, hk⟩ | ⟨rfl, hx⟩)
  · replace d2 := (hk 2).trans d2
    replace d1 := (hk 1).trans d1
    replace d0 := (hk 0).trans d0
    clear d3 hk
    obtain ⟨f1, t1, as1, b1, hy1, hR1⟩ := hY [3] 2 W1 hJ1 (by simp)
    replace hy1 : (Instr.yield l #[.int .i64 2, .int .u64 a2]).run Tryz.prog W1 = .ok (.round l f1 t1 as1 b1) W1 := hy1
    gi_wp2
    rw [roundsIn_succ]
    gi_wp2
    refine hR1.mono ?_
    clear hy1 hR1
    rintro e W2 (⟨rfl, hJ2, hk⟩ | ⟨rfl, hx⟩)
    · replace d1 := (hk 1).trans d1
      replace d0 := (hk 0).trans d0
      clear d2 hk
      obtain ⟨f1, t1, as1, b1, hy1, hR1⟩ := hY [3, 2] 1 W2 hJ2 (by simp)
      replace hy1 : (Instr.yield l #[.int .i64 1, .int .u64 a1]).run Tryz.prog W2 = .ok (.round l f1 t1 as1 b1) W2 := hy1
      gi_wp2
      rw [roundsIn_succ]
      gi_wp2
      refine hR1.mono ?_
      clear hy1 hR1
      rintro e W3 (⟨rfl, hJ3, hk⟩ | ⟨rfl, hx⟩)
      · replace d0 := (hk 0).trans d0
        clear d1 hk
        obtain ⟨f1, t1, as1, b1, hy1, hR1⟩ := hY [3, 2, 1] 0 W3 hJ3 (by simp)
        replace hy1 : (Instr.yield l #[.int .i64 0, .int .u64 a0]).run Tryz.prog W3 = .ok (.round l f1 t1 as1 b1) W3 := hy1
        gi_wp2
        rw [roundsIn_succ]
        gi_wp2
        refine hR1.mono ?_
        clear hy1 hR1
        rintro e W4 (⟨rfl, hJ4, hk⟩ | ⟨rfl, hx⟩)
        · clear d0 hk
          gi_wp2
          rw [roundsIn_succ]
          gi_wp2
          go_end0
          exact ⟨⟨_, rfl⟩, .inl ⟨_, rfl, hJ4⟩⟩
        · gi_wp2
          refine bodyPost_ret (results_none rfl _ _ _) rfl ?_
          exact ⟨⟨_, rfl⟩, .inr ⟨_, .inr (.inr (.inr rfl)), hx⟩⟩
      · gi_wp2
        refine bodyPost_ret (results_none rfl _ _ _) rfl ?_
        exact ⟨⟨_, rfl⟩, .inr ⟨_, .inr (.inr (.inl rfl)), hx⟩⟩
    · gi_wp2
      refine bodyPost_ret (results_none rfl _ _ _) rfl ?_
      exact ⟨⟨_, rfl⟩, .inr ⟨_, .inr (.inl rfl), hx⟩⟩
  · gi_wp2
    refine bodyPost_ret (results_none rfl _ _ _) rfl ?_
    exact ⟨⟨_, rfl⟩, .inr ⟨_, .inl rfl, hx⟩⟩
end Go.Proofs.YtgloapcfmlijlaaGreatDoor
