/- The landed package shape: check. -/
import Derived.Test.YtmlkccbhdhgoeaaDoorY5g
import Derived.Test.YtmlkccbhdhgoeaaDoorY7g
import Derived.RangeFuncBox
import Derived.Shelf.Abstract
namespace Go.Proofs.YtmlkccbhdhgoeaaDoor
open Go Go.RowKit Go.Shelf
attribute [local go_sem] Oper.semAt_some

/-- A kind's form. -/
theorem kform (j c : Nat) (hj : j < 8) (n : Int) (m : Nat) (hm : (m : Int) ≤ 9223372036854775807) (a : Option Addr) (cap : Nat) (w : World) (hH : HasAt w w.heap.size c (numG (j + 1)) (loN (j + 1)) (hiN (j + 1))) :
    Calls Tryd.prog 72 #[tv ((j + 1 : Nat) : Int) n (.slice a m cap), .pointer (some ⟨c, 0, none⟩), .pointer (some ⟨c + 1, 0, none⟩), .pointer (some ⟨c + 2, 0, none⟩)] w fun e w' => e = .returned (.bool (M.formT ((j + 1 : Nat) : Int) n m)) ∧ Below w.heap.size w w' := by
  have g1 := fun H => form_any 35 _ (enters_of Tryd.func35 (by kernel_rfl) rfl) width_any c (loN (j + 1)) (hiN (j + 1)) ((j + 1 : Nat) : Int) n m hm a cap w H
  have g2 := fun H => form_any 41 _ (enters_of Tryd.func41 (by kernel_rfl) rfl) nought_any c (loN (j + 1)) (hiN (j + 1)) ((j + 1 : Nat) : Int) n m hm a cap w H
  have g3 := fun H => form_any 46 _ (enters_of Tryd.func46 (by kernel_rfl) rfl) count_any c (loN (j + 1)) (hiN (j + 1)) ((j + 1 : Nat) : Int) n m hm a cap w H
  have key : ∀ q : Bool, q = M.formT ((j + 1 : Nat) : Int) n m → ∀ {g : FuncId}, (Calls Tryd.prog 72 #[tv ((j + 1 : Nat) : Int) n (.slice a m cap), .pointer (some ⟨c, 0, none⟩), .pointer (some ⟨c + 1, 0, none⟩), .pointer (some ⟨c + 2, 0, none⟩)] w fun e w' => e = .returned (.bool q) ∧ Below w.heap.size w w') → True → Calls Tryd.prog 72 #[tv ((j + 1 : Nat) : Int) n (.slice a m cap), .pointer (some ⟨c, 0, none⟩), .pointer (some ⟨c + 1, 0, none⟩), .pointer (some ⟨c + 2, 0, none⟩)] w fun e w' => e = .returned (.bool (M.formT ((j + 1 : Nat) : Int) n m)) ∧ Below w.heap.size w w' := by
    intro q hq _ h _
    rw [← hq]
    exact h
  match j, hj with
  | 0, _ => exact key _ (by simp only [loN, hiN]; unfold M.formT; rw [if_pos (by decide)]; cases m <;> simp) (g := 0) (g1 hH) trivial
  | 1, _ => exact key _ (by simp only [loN, hiN]; unfold M.formT; rw [if_neg (by decide), if_pos (by decide)]; cases m <;> simp) (g := 0) (g2 hH) trivial
  | 2, _ => exact key _ (by simp only [loN, hiN]; unfold M.formT; rw [if_neg (by decide), if_neg (by decide), if_pos (by decide)]; rcases (by omega : m = 1 ∨ m = 0 ∨ 2 ≤ m) with h | h | h; (rw [h]; simp); (rw [h]; simp); (rw [show (m == 1) = false by simp; omega, show decide (m ≤ 1) = false by simp; omega]; simp)) (g := 0) (g3 hH) trivial
  | 3, _ => exact key _ (by simp only [loN, hiN]; unfold M.formT; rw [if_neg (by decide), if_neg (by decide), if_pos (by decide)]; rcases (by omega : m = 1 ∨ m = 0 ∨ 2 ≤ m) with h | h | h; (rw [h]; simp); (rw [h]; simp); (rw [show (m == 1) = false by simp; omega, show decide (m ≤ 1) = false by simp; omega]; simp)) (g := 0) (g3 hH) trivial
  | 4, _ => exact key _ (by simp only [loN, hiN]; unfold M.formT; rw [if_neg (by decide), if_neg (by decide), if_neg (by decide), if_pos (by decide)]; by_cases h : m = 0 <;> simp [h]) (g := 0) (g3 hH) trivial
  | 5, _ => exact key _ (by simp only [loN, hiN]; unfold M.formT; rw [if_neg (by decide), if_neg (by decide), if_neg (by decide), if_pos (by decide)]; by_cases h : m = 0 <;> simp [h]) (g := 0) (g3 hH) trivial
  | 6, _ => exact key _ (by simp only [loN, hiN]; unfold M.formT; rw [if_neg (by decide), if_neg (by decide), if_neg (by decide), if_neg (by decide), if_pos (by decide)]) (g := 0) (g2 hH) trivial
  | 7, _ => exact key _ (by simp only [loN, hiN]; unfold M.formT; rw [if_neg (by decide), if_neg (by decide), if_neg (by decide), if_neg (by decide), if_neg (by decide)]) (g := 0) (g2 hH) trivial

/-- A function value, or none, is stored. -/
def IsF (V : Value) : Prop := V = .nilFunc ∨ ∃ F xa xb, V = .func F xa xb
theorem store_f {V : Value} (hV : IsF V) (W : World) (p : Addr) (h1 : (W.cell? p).isSome = true) (h2 : W.frozen? p = false) : (store p V).run Tryd.prog W = .ok () (W.setCell p V) := by
  rw [run_store _ _ _ _ _ (by rcases hV with rfl | ⟨F, xa, xb, rfl⟩ <;> rfl)]
  obtain ⟨v, hv⟩ := Option.isSome_iff_exists.1 h1
  rw [hv]
  simp [h2]
theorem isF_size (j : Nat) : IsF (sizeV j) := by unfold sizeV; split <;> first | exact .inr ⟨_, _, _, rfl⟩ | exact .inl rfl
theorem isF_of (j : Nat) : IsF (ofF j) := by unfold ofF; split <;> first | exact .inr ⟨_, _, _, rfl⟩ | exact .inl rfl

/-- Between two rounds: what lay there lies there; the table's box, the result's box. -/
structure CI (w : World) (b : Nat) (rt : TypeId) (ru : Value) (bt : Nat) (k n : Int) (v : Value) (W : World) : Prop where
  below : Below w.heap.size w W
  m : Boxed W w.heap.size 47 (.map (some b))
  r : Boxed W (w.heap.size + 2) rt ru
  t : BoxT W bt k n v
theorem boxed_kept' {W W' : World} {b : Nat} {t : TypeId} {v : Value} (h : Boxed W b t v) {row : Option Nat} (hg : W.grownBy W' row) (hr : ∀ r, row = some r → ∃ o : Obj, W.heap[r]? = some o ∧ o.isCells = false) : Boxed W' b t v :=
  (hg.block b h.lt (fun e => by
    obtain ⟨o, ho, hc⟩ := hr b e.symm
    rw [show W.heap[b]? = _ from h] at ho
    cases ho
    cases hc)).trans h
theorem below_kept {w W W' : World} (h : Below w.heap.size w W) {row : Option Nat} (hg : W.grownBy W' row) (hr : ∀ r, row = some r → w.heap.size ≤ r) : Below w.heap.size w W' :=
  ⟨hg.os.trans h.os, hg.tape.trans h.tape, hg.output.trans h.output, Nat.le_trans h.size hg.size, fun i hi => (hg.block i (Nat.lt_of_lt_of_le hi h.size) (fun e => by have := hr i e.symm; omega)).trans (h.block i hi)⟩
theorem boxT_kept {W W' : World} {S : Nat} {k m : Int} {v : Value} (h : BoxT W S k m v) {row : Option Nat} (hg : W.grownBy W' row) (hr : ∀ r, row = some r → ∃ o : Obj, W.heap[r]? = some o ∧ o.isCells = false) : BoxT W' S k m v :=
  ⟨cell_kept h.c0 hg hr, cell_kept h.c1 hg hr, cell_kept h.c2 hg hr⟩
theorem BoxT.lt' {W : World} {S : Nat} {k m : Int} {v : Value} (h : BoxT W S k m v) : S < W.heap.size := by
  have h0 := h.c0
  unfold World.cell? at h0
  cases ho : W.heap[S]? with
  | none => simp [ho] at h0
  | some o => exact (Array.getElem?_eq_some_iff.1 ho).1
theorem CI_own {w : World} {b B : Nat} {rt : TypeId} {ru : Value} {bt : Nat} {k n : Int} {v : Value} (hB : w.heap.size ≤ B) : OwnFrom B fun (_ : List El) W => CI w b rt ru bt k n v W := fun _ _ _ _ h hg hrow =>
  ⟨below_kept h.below hg (fun r e => Nat.le_trans hB (hrow r e).1), boxed_kept' h.m hg (fun r e => (hrow r e).2), boxed_kept' h.r hg (fun r e => (hrow r e).2), boxT_kept h.t hg (fun r e => (hrow r e).2)⟩
theorem CI.go {w B W2 : World} {b : Nat} {rt : TypeId} {ru : Value} {bt : Nat} {k n : Int} {v : Value} (h : CI w b rt ru bt k n v B) (hb : Below B.heap.size B W2) : CI w b rt ru bt k n v W2 :=
  ⟨h.below.trans (hb.mono h.below.size), (hb.block _ h.m.lt).trans h.m, (hb.block _ h.r.lt).trans h.r, h.t.from_ hb h.t.lt'⟩
structure CX (w : World) (x : El) (W : World) : Prop where
  below : Below w.heap.size w W
  r : Boxed W (w.heap.size + 2) 34 (.int .i64 (M.ownE x.1 : Nat))
theorem CX_own {w : World} {B : Nat} (hB : w.heap.size ≤ B) : OwnFrom B fun (x : El) W => CX w x W := fun _ _ _ _ h hg hrow =>
  ⟨below_kept h.below hg (fun r e => Nat.le_trans hB (hrow r e).1), boxed_kept' h.r hg (fun r e => (hrow r e).2)⟩
/-- The loop's variables are assigned to. -/
def CAx (w : World) (b : Nat) (rt : TypeId) (ru : Value) (bt : Nat) (k0 n0 : Int) (v0 : Value) (L0 : List (Nat × M.Ty)) (A1 : Nat → El → Act) (pre : List El) (x : El) (a' : Act) (B : World) : Prop :=
  ∃ (bx : Nat) (k n : Int) (us : List M.Ty), x.1.2 = .mk k n us ∧ GoodEl w L0 pre x ∧ a' = A1 bx x ∧ CI w b rt ru bt k0 n0 v0 B ∧ BoxT B bx k n x.2 ∧ w.heap.size + 3 ≤ bx ∧ bx < B.heap.size
theorem CAx_own {w : World} {b B : Nat} {rt : TypeId} {ru : Value} {bt : Nat} {k0 n0 : Int} {v0 : Value} (hB : w.heap.size ≤ B) {L0 : List (Nat × M.Ty)} {A1 : Nat → El → Act} (pre : List El) (x : El) (a' : Act) : OwnFrom B fun (_ : Unit) W => CAx w b rt ru bt k0 n0 v0 L0 A1 pre x a' W := by
  rintro _ W W' row ⟨bx, k, n, us, h1, h2, h3, h4, h5, h6, h7⟩ hg hrow
  exact ⟨bx, k, n, us, h1, h2, h3, CI_own hB [] _ _ row h4 hg hrow, boxT_kept h5 hg (fun r e => (hrow r e).2), h6, Nat.lt_of_lt_of_le h7 hg.size⟩

set_option maxRecDepth 100000 in
set_option maxHeartbeats 8000000 in
theorem kcheck_any (k n : Int) (xs : List M.Ty) (a : Option Addr) (cap b : Nat) (cs : List Nat) (w : World) (hL : LayT w w.heap.size xs (.slice a xs.length cap)) (hc : M.cntT (.mk k n xs) ≤ 100) (hK : Kinds w w.heap.size b cs) :
    Calls Tryd.prog 26 #[.map (some b), tv k n (.slice a xs.length cap)] w fun e w' => e = .returned (.int .i64 (M.chkT 0 (.mk k n xs) : Nat)) ∧ Below w.heap.size w w' := by
  have hro : Fence.wide.round = none := rfl
  obtain ⟨r, hr⟩ : ∃ r, r = M.chkT 0 (.mk k n xs) := ⟨_, rfl⟩
  rw [← hr]
  refine (callsIn_wide (n := 6)).1 ?_
  refine callsIn_of_wp_marks Tryd.func26 rfl trivial ?_ rfl
  simp only [Tryd.ntmps26, List.size_toArray, List.length_cons, List.length_nil, Nat.reduceAdd, Nat.reduceSub, Array.replicate_succ, Array.replicate_zero, List.push_toArray, List.append_toArray, List.nil_append, List.cons_append]
  gi_wp2_with fail
  refine ⟨trivial, (within_in _ k n (.slice a xs.length cap) _).mono ?_⟩
  rintro e w' ⟨rfl, rfl⟩
  generalize hW1 : ((((w.alloc (.cells #[.map (some b)] 47)).alloc (.cells #[.int .i64 k, .int .i64 n, .slice a xs.length cap] 24)).alloc (.cells #[.int .i64 0] 34)).alloc (.cells #[.int .i64 k, .int .i64 n, .slice a xs.length cap] 24)) = W1
  have hz1 : W1.heap.size = w.heap.size + 4 := by rw [← hW1]; simp
  have hb1 : Below w.heap.size w W1 := by rw [← hW1]; (repeat (first | exact Below.refl _ _ | refine Below.drew ?_ | refine Below.alloc ?_ (by first | omega | (simp; omega) | simp) _ | refine Below.setCell ?_ (by first | omega | (simp; omega) | simp) _))
  have hI1 : CI w b 34 (.int .i64 0) (w.heap.size + 3) k n (.slice a xs.length cap) W1 := by
    refine ⟨hb1, ?_, ?_, ?_⟩
    · rw [← hW1]; exact (((Boxed.new w _ _).alloc _).alloc _).alloc _
    · rw [← hW1]
      have := Boxed.new ((w.alloc (.cells #[.map (some b)] 47)).alloc (.cells #[.int .i64 k, .int .i64 n, .slice a xs.length cap] 24)) 34 (.int .i64 0)
      rw [World.size_alloc, World.size_alloc] at this
      exact this.alloc _
    · rw [← hW1]
      have := BoxT.new (((w.alloc (.cells #[.map (some b)] 47)).alloc (.cells #[.int .i64 k, .int .i64 n, .slice a xs.length cap] 24)).alloc (.cells #[.int .i64 0] 34)) k n (.slice a xs.length cap) 24
      rw [World.size_alloc, World.size_alloc, World.size_alloc] at this
      exact this
  clear hW1
  gi_wp2_with fail
  obtain ⟨A1, hA1⟩ : ∃ A1 : Nat → El → Act, A1 = fun bx x => { tmps := #[.map (some b), tv k n (.slice a xs.length cap), .pointer (some ⟨w.heap.size, 0, none⟩), .pointer (some ⟨w.heap.size + 1, 0, none⟩), .pointer (some ⟨w.heap.size + 1 + 1, 0, none⟩), .int .i64 (x.1.1 : Nat), .pointer (some ⟨bx, 0, none⟩), undef, undef,
    .agg #[.int .i64 k, .int .i64 n, .slice a xs.length cap], .func (.func 76) #[] #[.pointer (some ⟨w.heap.size + 1 + 1 + 1, 0, none⟩)], .int .i64 (x.1.1 : Nat), tv x.1.2.k x.1.2.n x.2, undef, undef, undef, undef, undef, undef, undef, undef, undef, undef, undef, undef, undef, undef, undef, undef, undef, undef, undef], defers := [] } := ⟨_, rfl⟩
  have hw1 : w.heap.size ≤ W1.heap.size := by omega
  refine range_lw (gf := 76) (lb := #[.pointer (some ⟨w.heap.size + 1 + 1 + 1, 0, none⟩)]) (by omega) rfl (enters_of Tryd.func76 (by kernel_rfl) rfl)
    (encs := encT) (fun x => by obtain ⟨⟨d, ⟨k', n', us⟩⟩, v⟩ := x; rfl) (fun _ W => CI w b 34 (.int .i64 0) (w.heap.size + 3) k n (.slice a xs.length cap) W) (CI_own hw1) (CX w) (CX_own hw1)
    (fun c => c ≠ W1.heap.size + 1) (fun c h => h) (AllOf (.mk k n xs) (fun x => M.ownE x.1 = 0)) (OneOf (.mk k n xs) (fun x => M.ownE x.1 = 0)) (fun x => M.ownE x.1 = 0)
    (fun pre x _ _ => GoodEl w (M.flat 0 (.mk k n xs)) pre x) ?seq hI1 (fun pre x a' B => CAx w b 34 (.int .i64 0) (w.heap.size + 3) k n (.slice a xs.length cap) (M.flat 0 (.mk k n xs)) A1 pre x a' B) (fun pre x a' => CAx_own hw1 pre x a') ?assign ?body ?done ?stop
  case seq =>
    intro l J Jx W hzW hJI hJ hY h0
    have HT : TellH w (M.flat 0 (.mk k n xs)) (fun c => c ≠ W1.heap.size + 1) (W1.heap.size + 2) l J Jx (fun x => M.ownE x.1 = 0) :=
      ⟨hJ, fun pre A h => (hJI pre A h).1.below, fun pre A h => (hJI pre A h).2, fun c hc => by omega, fun m pre x A hj hx => yieldAt_any (hY pre x A A hj ⟨rfl, rfl, rfl, Nat.le_refl _, fun _ _ _ => rfl⟩ hx)⟩
    exact within_seq w _ _ l J Jx _ k n xs HT _ a cap hL (by omega) _ W (hJI [] W h0).1.t h0
  case assign =>
    rintro l pre ⟨⟨d, ⟨k', n', us⟩⟩, v⟩ A B K hI hg hG hK'
    obtain ⟨ua, uc, hu, _, _⟩ := hG.1.slice
    replace hu : v = .slice ua us.length uc := hu
    subst hu
    dsimp only [encT]
    have hIB := CI_own (Nat.le_refl w.heap.size) pre _ _ none hI hg (fun r e => by cases e)
    have hzB := hIB.below.size
    have hz3 := (hIB.t.lt')
    have hAX : CAx w b 34 (.int .i64 0) (w.heap.size + 3) k n (.slice a xs.length cap) (M.flat 0 (.mk k n xs)) A1 pre ((d, .mk k' n' us), .slice ua us.length uc) (A1 B.heap.size ((d, .mk k' n' us), .slice ua us.length uc)) (B.alloc (.cells #[.int .i64 k', .int .i64 n', .slice ua us.length uc] 24)) :=
      ⟨B.heap.size, k', n', us, rfl, hG, rfl, CI_own (Nat.le_refl w.heap.size) pre _ _ none hIB (World.grownBy_alloc _ _ _) (fun r e => by cases e), BoxT.new _ _ _ _ _, by omega, by simp⟩
    rw [hA1] at hAX
    gi_wp2
    refine hK' _ _ ((KeepsOthers.alloc B _).from _) (fun c hc _ => Below.heap_alloc _ _ _ (by omega)) ?_
    rw [hA1]
    exact hAX
  case body =>
    rintro l pre ⟨⟨d, ⟨k', n', us⟩⟩, v⟩ a' B ⟨bx, k2, n2, us2, hx, hG, rfl, hI, hBx, h4, h5⟩
    cases hx
    replace hBx : BoxT B bx k' n' v := hBx
    obtain ⟨ua, uc, hu, _, _⟩ := hG.1.slice
    replace hu : v = .slice ua us.length uc := hu
    have hul : us.length ≤ 200 := by
      have h1 := hG.2.1
      have h2 : d + M.cntT (.mk k' n' us) ≤ 200 := h1
      rw [M.cntT] at h2
      have h3 := M.length_cntT us
      omega
    subst hu
    rw [hA1]
    dsimp only [M.Ty.k, M.Ty.n]
    have hm := hI.m.cell
    have c0 := hBx.c0
    have c1 := hBx.c1
    have c2 := hBx.c2
    have cr : B.cell? ⟨w.heap.size + 1 + 1, 0, none⟩ = some (.int .i64 0) := hI.r.cell
    have fr : B.frozen? ⟨w.heap.size + 1 + 1, 0, none⟩ = false := hI.r.frozen
    have hlt4 : w.heap.size + 1 + 1 < B.heap.size := by omega
    by_cases hk : k' < 1 ∨ 8 < k'
    · have hlk := (hK.from_ hI.below).miss true k' hk
      simp only [if_true] at hlk
      have hE : M.ownE (d, .mk k' n' us) = 9 := by unfold M.ownE; exact if_pos hk
      have s0 := fun W p => store_f (V := .nilFunc) (.inl rfl) W p
      unfold zeroK at hlk
      gi_wp2_with fail
      have hsz := hI.below.size
      refine ⟨fun h => (by have h' : M.ownE (d, .mk k' n' us) = 0 := h; omega), ((KeepsOthers.setCell _ _ _).trans (KeepsOthers.alloc _ _)).from _, ⟨(hI.below.setCell (p := ⟨w.heap.size + 1 + 1, 0, none⟩) (by simp; omega) _).alloc (by simp [World.setCell]; omega) _, ?_⟩⟩
      rw [hE]
      exact (hI.r.set _).alloc _
    · obtain ⟨j, c, hkj, hj, hH, hlk⟩ := hK.at_ k' (by omega) (by omega)
      have HK := Lib.hid hkj
      clear hkj
      replace hlk := hlk true B hI.below
      simp only [if_true, ent] at hlk
      have s0 := fun W p => store_f (V := hasV c) (.inr ⟨_, _, _, rfl⟩) W p
      have s1 := fun W p => store_f (isF_size (j + 1)) W p
      have s2 := fun W p => store_f (V := .func (.func (faultG (j + 1))) #[] #[]) (.inr ⟨_, _, _, rfl⟩) W p
      have s3 := fun W p => store_f (V := .func (.func (restG (j + 1))) #[] #[]) (.inr ⟨_, _, _, rfl⟩) W p
      have s4 := fun W p => store_f (isF_of (j + 1)) W p
      have hsz := hI.below.size
      have hB2 := hI.below.alloc hsz (.cells #[hasV c, sizeV (j + 1), .func (.func (faultG (j + 1))) #[] #[], .func (.func (restG (j + 1))) #[] #[], ofF (j + 1)] 59)
      have HF := kform j c hj n' us.length (by omega) ua uc _ ((hH.from_ hB2).mono hB2.size)
      rw [← HK.out] at HF
      have HF := Lib.hid HF
      have hEo : M.ownE (d, .mk k' n' us) = if M.formT k' n' us.length = false then 2 else if d = 6 then 7 else 0 := by unfold M.ownE; exact if_neg hk
      generalize M.formT k' n' us.length = q at *
      have HI := Lib.hid hI
      have HE := Lib.hid hEo
      clear hEo hI hk
      gi_wp2_with fail
      refine ⟨trivial, CallsIn.inRound l ((callsIn_wide.2 HF.out).mono ?_)⟩
      rintro e w2 ⟨rfl, hb2⟩
      have hbB : Below B.heap.size B w2 := ((Below.refl _ B).alloc (Nat.le_refl _) _).trans (hb2.mono (by simp))
      have hI2 := Lib.hid (HI.out.go hbB)
      have cr2 : w2.cell? ⟨w.heap.size + 1 + 1, 0, none⟩ = some (.int .i64 0) := hI2.out.r.cell
      have fr2 : w2.frozen? ⟨w.heap.size + 1 + 1, 0, none⟩ = false := hI2.out.r.frozen
      have hko : KeepsOthers B w2 := ⟨hbB.size, fun c o h _ => (hbB.block c (Array.getElem?_eq_some_iff.1 h).1).trans h⟩
      cases q with
      | false =>
        gi_wp2_with fail
        have hE2 : M.ownE (d, .mk k' n' us) = 2 := HE.out
        refine ⟨fun h => (by have h' : M.ownE (d, .mk k' n' us) = 0 := h; omega), (hko.trans (KeepsOthers.setCell _ _ _)).from _, ⟨hI2.out.below.setCell (p := ⟨w.heap.size + 1 + 1, 0, none⟩) (by simp; omega) _, ?_⟩⟩
        rw [hE2]
        exact hI2.out.r.set _
      | true =>
        by_cases hd : d = 6
        · subst hd
          gi_wp2_with fail
          have hE2 : M.ownE (6, .mk k' n' us) = 7 := HE.out
          refine ⟨fun h => (by have h' : M.ownE (6, .mk k' n' us) = 0 := h; omega), (hko.trans (KeepsOthers.setCell _ _ _)).from _, ⟨hI2.out.below.setCell (p := ⟨w.heap.size + 1 + 1, 0, none⟩) (by simp; omega) _, ?_⟩⟩
          rw [hE2]
          exact hI2.out.r.set _
        · have hd' : ((d : Int) == 6) = false := by simp; omega
          have hE2 := HE.out
          rw [if_neg (by decide), if_neg hd] at hE2
          have hE3 := Lib.hid hE2
          clear hE2 hd
          gi_wp2_with fail
          exact ⟨hE3.out, hko.from _, fun c hc _ => hbB.block c hc, hI2.out⟩
  case done =>
    rintro D ys W hD ⟨hys, hon⟩ hI hKd
    have hE : M.chkT 0 (.mk k n xs) = 0 := (M.chk_all (by omega)).2 (by
      intro y hy
      rw [← hys] at hy
      obtain ⟨x, hx, rfl⟩ := List.mem_map.1 hy
      exact hon x hx)
    have cr : W.cell? ⟨w.heap.size + 1 + 1, 0, none⟩ = some (.int .i64 0) := hI.r.cell
    have fr : W.frozen? ⟨w.heap.size + 1 + 1, 0, none⟩ = false := hI.r.frozen
    rw [hE] at hr
    have HR := Lib.hid hr
    have HI := Lib.hid hI
    clear hE hr hI
    gi_wp2
    have hK' := (KeepsOthers.setCell W ⟨w.heap.size + 1 + 1, 0, none⟩ (.int .i64 0)).same D _ hKd rfl
    refine ⟨by simp, .inl ⟨_, _, rfl, run_takeDeferred hK', ?_⟩⟩
    have hc5 := cell_kept (World.cell?_setCell_same' W ⟨w.heap.size + 1 + 1, 0, none⟩ (.int .i64 0) (by rw [cr]; rfl)) (grownBy_putObj' _ D (.deferred none)) (fun r e => by cases e; exact ⟨_, hK', rfl⟩)
    refine ⟨.int .i64 0, ?_, by rw [HR.out]; rfl, (HI.out.below.setCell (p := ⟨w.heap.size + 1 + 1, 0, none⟩) (by simp; omega) _).trans (belowK_b (w := w) (Nat.le_refl _) _ D _ _ (by omega) hK' rfl rfl)⟩
    simp [results, Tryd.f26, go_sem, hc5]
  case stop =>
    rintro D y W hD ⟨ys, zs, hfl, hon, hoff⟩ hX hKd
    have hE : M.chkT 0 (.mk k n xs) = M.ownE y.1 := M.chk_first (by omega) hfl (by
      intro z hz
      obtain ⟨x, hx, rfl⟩ := List.mem_map.1 hz
      exact hon x hx) hoff
    rw [hE] at hr
    have HR := Lib.hid hr
    have HX := Lib.hid hX
    clear hE hr hX
    gi_wp2
    refine ⟨by simp, .inl ⟨_, _, rfl, run_takeDeferred hKd, ?_⟩⟩
    have cr : W.cell? ⟨w.heap.size + 1 + 1, 0, none⟩ = some (.int .i64 (M.ownE y.1 : Nat)) := HX.out.r.cell
    have hc5 := cell_kept cr (grownBy_putObj' _ D (.deferred none)) (fun r e => by cases e; exact ⟨_, hKd, rfl⟩)
    refine ⟨.int .i64 (M.ownE y.1 : Nat), ?_, by rw [HR.out], HX.out.below.trans (belowK_b (w := w) (Nat.le_refl _) W D _ _ (by omega) hKd rfl rfl)⟩
    simp [results, Tryd.f26, go_sem, hc5]
end Go.Proofs.YtmlkccbhdhgoeaaDoor
