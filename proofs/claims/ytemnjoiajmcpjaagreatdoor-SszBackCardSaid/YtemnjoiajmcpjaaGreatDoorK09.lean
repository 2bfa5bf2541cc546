/- The landed package shape: size. Contracts of word.fromTop, of the function that it hands back, and of word.Less. -/
import Derived.Test.YtemnjoiajmcpjaaGreatDoorK08
import Derived.Test.YtemnjoiajmcpjaaGreatDoorK05
import Derived.Laws.Bits64b
import Derived.Test.YtemnjoiajmcpjaaGreatDoorK01
import Derived.RangeFuncNested
import Derived.RangeFuncBound
import Derived.RangeFuncCalls
import Derived.RangeFuncLeaves
import Derived.Shelf.Abstract
import Derived.Shelf.RegionOpen
import Derived.OwnWalkIn
import Derived.TacticsInMore
import Derived.LoopNIn
import Derived.LoopIn
namespace Go.Proofs.YtemnjoiajmcpjaaGreatDoor
open Go Go.RowKit Go.Shelf
attribute [local go_sem] Oper.semAt_some

theorem size_at (j : Nat) (hj : j < 8) (hf : ¬ (j + 1 = 4 ∨ j + 1 = 6 ∨ j + 1 = 8)) : ∃ g, sizeV (j + 1) = .func (.func g) #[] #[] ∧ SizeC ((j + 1 : Nat) : Int) g ∧ ∀ args w, (callFunc g args).run Tryz.prog w = .ok (.enter g args) w := by
  match j, hj with
  | 0, _ => exact ⟨_, rfl, size_1, enters_of Tryz.func67 (by kernel_rfl) rfl⟩
  | 1, _ => exact ⟨_, rfl, size_2, enters_of Tryz.func73 (by kernel_rfl) rfl⟩
  | 2, _ => exact ⟨_, rfl, size_3, enters_of Tryz.func78 (by kernel_rfl) rfl⟩
  | 3, _ => exact absurd (.inl rfl) hf
  | 4, _ => exact ⟨_, rfl, size_5, enters_of Tryz.func85 (by kernel_rfl) rfl⟩
  | 5, _ => exact absurd (.inr (.inl rfl)) hf
  | 6, _ => exact ⟨_, rfl, size_7, enters_of Tryz.func91 (by kernel_rfl) rfl⟩
  | 7, _ => exact absurd (.inr (.inr rfl)) hf
theorem own_each {k n : Int} {ins : List M.Ty} (h : ∃ e, M.chkT e (.mk k n ins) = 0) : M.ownI k n = (M.oneN (.mk k n ins) : Nat) ∧ M.eachI k n = (M.eachN (.mk k n ins) : Nat) ∧ 0 ≤ n ∧ n ≤ 512 := by
  obtain ⟨e, h⟩ := h
  have hk := (M.chkT_ok.1 h).2.1
  have h8 := (M.chkT_ok.1 h).1
  have hn : 0 ≤ n ∧ n ≤ 512 := by
    unfold M.formT at hk
    split at hk
    · simp at hk; omega
    · split at hk
      · simp at hk; omega
      · split at hk
        · simp at hk; omega
        · split at hk
          · simp at hk; omega
          · split at hk
            · simp at hk; omega
            · simp at hk; omega
  refine ⟨?_, ?_, hn⟩
  · unfold M.ownI
    rw [M.oneN]
    split
    · omega
    · split
      · rfl
      · split
        · omega
        · rfl
  · unfold M.eachI
    rw [M.eachN]
    split
    · omega
    · split
      · rfl
      · rfl

/-- Between two rounds: the sum, and how many at each depth. -/
structure SI (w : World) (b bt : Nat) (k n : Int) (v : Value) (st : M.St) (W : World) : Prop where
  below : Below w.heap.size w W
  m : Boxed W w.heap.size 58 (.map (some b))
  t : BoxT W bt k n v
  s : Boxed W (w.heap.size + 2) 3 (.int .i64 (st.1 : Nat))
  mc : ∀ i, i < 7 → W.cell? ⟨w.heap.size + 3, i, none⟩ = some (.int .i64 (st.2 i : Nat))
  mf : ∀ i, i < 7 → W.frozen? ⟨w.heap.size + 3, i, none⟩ = false
theorem SI_own {w : World} {b bt : Nat} {k n : Int} {v : Value} {B : Nat} (hB : w.heap.size ≤ B) : OwnFrom B fun (st : M.St) W => SI w b bt k n v st W := fun _ _ _ _ h hg hrow =>
  have hr := fun r e => (hrow r e).2
  ⟨below_kept h.below hg (fun r e => Nat.le_trans hB (hrow r e).1), boxed_kept' h.m hg hr, boxT_kept h.t hg hr, boxed_kept' h.s hg hr, fun i hi => cell_kept (h.mc i hi) hg hr, fun i hi => (frozen_kept (h.mc i hi) hg hr).trans (h.mf i hi)⟩
theorem SI.go {w B W2 : World} {b bt : Nat} {k n : Int} {v : Value} {st : M.St} (h : SI w b bt k n v st B) (hb : Below B.heap.size B W2) (h3 : w.heap.size + 3 < B.heap.size) : SI w b bt k n v st W2 :=
  ⟨h.below.trans (hb.mono h.below.size), (hb.block _ h.m.lt).trans h.m, h.t.from_ hb h.t.lt', (hb.block _ h.s.lt).trans h.s, fun i hi => (hb.cell (p := ⟨w.heap.size + 3, i, none⟩) h3).trans (h.mc i hi), fun i hi => (hb.frozen (p := ⟨w.heap.size + 3, i, none⟩) h3).trans (h.mf i hi)⟩
def stO (pre : List El) : M.St := (pre.map (·.1)).foldl M.stp M.st0
theorem stO_next (pre : List El) (x : El) : stO (pre ++ [x]) = M.stp (stO pre) x.1 := by unfold stO; rw [List.map_append, List.foldl_append]; rfl
def SAx (w : World) (b bt : Nat) (k0 n0 : Int) (v0 : Value) (L0 : List (Nat × M.Ty)) (A1 : Nat → El → Act) (pre : List El) (x : El) (a' : Act) (B : World) : Prop :=
  ∃ (bx : Nat) (k n : Int) (us : List M.Ty), x.1.2 = .mk k n us ∧ GoodEl w L0 pre x ∧ a' = A1 bx x ∧ SI w b bt k0 n0 v0 (stO pre) B ∧ BoxT B bx k n x.2 ∧ w.heap.size + 5 ≤ bx ∧ bx < B.heap.size
theorem SAx_own {w : World} {b bt B : Nat} {k0 n0 : Int} {v0 : Value} (hB : w.heap.size ≤ B) {L0 : List (Nat × M.Ty)} {A1 : Nat → El → Act} (pre : List El) (x : El) (a' : Act) : OwnFrom B fun (_ : Unit) W => SAx w b bt k0 n0 v0 L0 A1 pre x a' W := by
  rintro _ W W' row ⟨bx, k, n, us, h1, h2, h3, h4, h5, h6, h7⟩ hg hrow
  exact ⟨bx, k, n, us, h1, h2, h3, SI_own hB _ _ _ row h4 hg hrow, boxT_kept h5 hg (fun r e => (hrow r e).2), h6, Nat.lt_of_lt_of_le h7 hg.size⟩

set_option maxRecDepth 100000 in
set_option maxHeartbeats 8000000 in
theorem ksize_any (k n : Int) (xs : List M.Ty) (a : Option Addr) (cap b : Nat) (cs : List Nat) (w : World) (hL : LayT w w.heap.size xs (.slice a xs.length cap)) (hc : M.cntT (.mk k n xs) ≤ 1000) (hK : Kinds w w.heap.size b cs)
    (hchk : M.chkT 0 (.mk k n xs) = 0) (hfix : M.fixT (.mk k n xs) = true) :
    Calls Tryz.prog 39 #[.map (some b), tv k n (.slice a xs.length cap)] w fun e w' => e = .returned (.int .i64 (M.szT (.mk k n xs) : Nat)) ∧ Below w.heap.size w w' := by
  have hro : Fence.wide.round = none := rfl
  obtain ⟨r, hr⟩ : ∃ r, r = M.szT (.mk k n xs) := ⟨_, rfl⟩
  rw [← hr]
  refine (callsIn_wide (n := 6)).1 ?_
  refine callsIn_of_wp_marks Tryz.func39 rfl trivial ?_ rfl
  simp only [Tryz.ntmps39, List.size_toArray, List.length_cons, List.length_nil, Nat.reduceAdd, Nat.reduceSub, Array.replicate_succ, Array.replicate_zero, List.push_toArray, List.append_toArray, List.nil_append, List.cons_append]
  gi_wp2_with fail
  refine ⟨trivial, (within_in _ k n (.slice a xs.length cap) _).mono ?_⟩
  rintro e w' ⟨rfl, rfl⟩
  obtain ⟨W0, hW0⟩ : ∃ W0, (((w.alloc (.cells #[.map (some b)] 58)).alloc (.cells #[.int .i64 k, .int .i64 n, .slice a xs.length cap] 24)).alloc (.cells #[.int .i64 0] 3)).alloc (.cells #[.int .i64 1, .int .i64 0, .int .i64 0, .int .i64 0, .int .i64 0, .int .i64 0, .int .i64 0] 96) = W0 := ⟨_, rfl⟩
  rw [hW0]
  have hz0 : W0.heap.size = w.heap.size + 4 := by rw [← hW0]; simp
  rw [hz0]
  generalize hW1 : W0.alloc (.cells #[.int .i64 k, .int .i64 n, .slice a xs.length cap] 24) = W1
  have hz1 : W1.heap.size = w.heap.size + 5 := by rw [← hW1]; simp; omega
  have hI1 : SI w b (w.heap.size + 4) k n (.slice a xs.length cap) (stO []) W1 := by
    have hb1 : Below w.heap.size w W0 := by rw [← hW0]; (repeat (first | exact Below.refl _ _ | refine Below.drew ?_ | refine Below.alloc ?_ (by first | omega | (simp; omega) | simp) _ | refine Below.setCell ?_ (by first | omega | (simp; omega) | simp) _))
    have h1 : Boxed W0 w.heap.size 58 (.map (some b)) := by rw [← hW0]; exact (((Boxed.new w _ _).alloc _).alloc _).alloc _
    have h2 : Boxed W0 (w.heap.size + 2) 3 (.int .i64 0) := by
      rw [← hW0]
      have := Boxed.new ((w.alloc (.cells #[.map (some b)] 58)).alloc (.cells #[.int .i64 k, .int .i64 n, .slice a xs.length cap] 24)) 3 (.int .i64 0)
      rw [World.size_alloc, World.size_alloc] at this
      exact this.alloc _
    have h3 : W0.heap[w.heap.size + 3]? = some (.cells #[.int .i64 1, .int .i64 0, .int .i64 0, .int .i64 0, .int .i64 0, .int .i64 0, .int .i64 0] 96 (0, 0)) := by
      rw [← hW0]
      have := World.alloc_heap_new (((w.alloc (.cells #[.map (some b)] 58)).alloc (.cells #[.int .i64 k, .int .i64 n, .slice a xs.length cap] 24)).alloc (.cells #[.int .i64 0] 3)) (.cells #[.int .i64 1, .int .i64 0, .int .i64 0, .int .i64 0, .int .i64 0, .int .i64 0, .int .i64 0] 96)
      rw [World.size_alloc, World.size_alloc, World.size_alloc] at this
      exact this
    have hbW : Below W0.heap.size W0 W1 := by rw [← hW1]; exact (Below.refl _ _).alloc (Nat.le_refl _) _
    have h4 : W1.heap[w.heap.size + 3]? = _ := (hbW.block _ (by omega)).trans h3
    refine ⟨hb1.trans (hbW.mono (by omega)), (hbW.block _ h1.lt).trans h1, ?_, (hbW.block _ h2.lt).trans h2, ?_, ?_⟩
    · rw [← hW1]
      have := BoxT.new W0 k n (.slice a xs.length cap) 24
      rw [hz0] at this
      exact this
    · intro i hi
      match i, hi with
      | 0, _ => simp [World.cell?, h4]; rfl
      | 1, _ => simp [World.cell?, h4]; rfl
      | 2, _ => simp [World.cell?, h4]; rfl
      | 3, _ => simp [World.cell?, h4]; rfl
      | 4, _ => simp [World.cell?, h4]; rfl
      | 5, _ => simp [World.cell?, h4]; rfl
      | 6, _ => simp [World.cell?, h4]; rfl
    · intro i hi
      simp [World.frozen?, h4]
  clear hW1 hW0
  gi_wp2_with fail
  obtain ⟨A1, hA1⟩ : ∃ A1 : Nat → El → Act, A1 = fun bx x => { tmps := #[.map (some b), tv k n (.slice a xs.length cap), .pointer (some ⟨w.heap.size, 0, none⟩), .pointer (some ⟨w.heap.size + 1, 0, none⟩), .int .i64 0, .pointer (some ⟨w.heap.size + 1 + 1, 0, none⟩), .pointer (some ⟨w.heap.size + 1 + 1 + 1, 0, none⟩), .int .i64 (x.1.1 : Nat), .pointer (some ⟨bx, 0, none⟩), undef, undef,
    .agg #[.int .i64 1, .int .i64 0, .int .i64 0, .int .i64 0, .int .i64 0, .int .i64 0, .int .i64 0], .agg #[.int .i64 k, .int .i64 n, .slice a xs.length cap], .func (.func 126) #[] #[.pointer (some ⟨w.heap.size + 4, 0, none⟩)], .int .i64 (x.1.1 : Nat), tv x.1.2.k x.1.2.n x.2,
    undef, undef, undef, undef, undef, undef, undef, undef, undef, undef, undef, undef, undef, undef, undef, undef, undef, undef, undef, undef, undef, undef, undef, undef, undef, undef], defers := [] } := ⟨_, rfl⟩
  have hw1 : w.heap.size ≤ W1.heap.size := by omega
  refine range_lw (gf := 126) (lb := #[.pointer (some ⟨w.heap.size + 4, 0, none⟩)]) (by omega) rfl (enters_of Tryz.func126 (by kernel_rfl) rfl)
    (encs := encT) (fun x => by obtain ⟨⟨d, ⟨k', n', us⟩⟩, v⟩ := x; rfl) (fun pre W => SI w b (w.heap.size + 4) k n (.slice a xs.length cap) (stO pre) W) (fun pre => SI_own hw1 (stO pre)) (fun _ _ => False) (fun _ _ _ _ h _ _ => h)
    (fun c => c ≠ W1.heap.size + 1 ∧ c ≠ w.heap.size + 2 ∧ c ≠ w.heap.size + 3) (fun c h => h.1) (AllOf (.mk k n xs) (fun _ => True)) (OneOf (.mk k n xs) (fun _ => True)) (fun _ => True)
    (fun pre x _ _ => GoodEl w (M.flat 0 (.mk k n xs)) pre x) ?seq hI1 (fun pre x a' B => SAx w b (w.heap.size + 4) k n (.slice a xs.length cap) (M.flat 0 (.mk k n xs)) A1 pre x a' B) (fun pre x a' => SAx_own hw1 pre x a') ?assign ?body ?done ?stop
  case seq =>
    intro l J Jx W hzW hJI hJ hY h0
    have HT : TellH w (M.flat 0 (.mk k n xs)) (fun c => c ≠ W1.heap.size + 1 ∧ c ≠ w.heap.size + 2 ∧ c ≠ w.heap.size + 3) (W1.heap.size + 2) l J Jx (fun _ => True) :=
      ⟨hJ, fun pre A h => (hJI pre A h).1.below, fun pre A h => (hJI pre A h).2, fun c hc => by omega, fun m pre x A hj hx => yieldAt_any (hY pre x A A hj ⟨rfl, rfl, rfl, Nat.le_refl _, fun _ _ _ => rfl⟩ hx)⟩
    exact within_seq w _ _ l J Jx _ k n xs HT _ a cap hL (by omega) _ W (hJI [] W h0).1.t h0
  case assign =>
    rintro l pre ⟨⟨d, ⟨k', n', us⟩⟩, v⟩ A B K hI hg hG hK'
    obtain ⟨ua, uc, hu, _, _⟩ := hG.1.slice
    replace hu : v = .slice ua us.length uc := hu
    subst hu
    dsimp only [encT]
    have hIB := SI_own (Nat.le_refl w.heap.size) (stO pre) _ _ none hI hg (fun r e => by cases e)
    have hzB := hIB.below.size
    have hz3 := (hIB.t.lt')
    have hAX : SAx w b (w.heap.size + 4) k n (.slice a xs.length cap) (M.flat 0 (.mk k n xs)) A1 pre ((d, .mk k' n' us), .slice ua us.length uc) (A1 B.heap.size ((d, .mk k' n' us), .slice ua us.length uc)) (B.alloc (.cells #[.int .i64 k', .int .i64 n', .slice ua us.length uc] 24)) :=
      ⟨B.heap.size, k', n', us, rfl, hG, rfl, SI_own (Nat.le_refl w.heap.size) (stO pre) _ _ none hIB (World.grownBy_alloc _ _ _) (fun r e => by cases e), BoxT.new _ _ _ _ _, by omega, by simp⟩
    rw [hA1] at hAX
    gi_wp2
    refine hK' _ _ ((KeepsOthers.alloc B _).from _) (fun c hc _ => Below.heap_alloc _ _ _ (by omega)) ?_
    rw [hA1]
    exact hAX
  case body =>
    rintro l pre ⟨⟨d, ⟨k', n', us⟩⟩, v⟩ a' B ⟨bx, k2, n2, us2, hx, hG, rfl, hI, hBx, h4, h5⟩
    cases hx
    replace hBx : BoxT B bx k' n' v := hBx
    obtain ⟨zs, hzs⟩ := hG.2.2
    obtain ⟨hd6, hex, _, hfx, b1, b2, b3, b4, b5, b6, b7⟩ := M.round_most hchk hfix hzs
    have hkr : 1 ≤ k' ∧ k' ≤ 8 := by obtain ⟨e, he⟩ := hex; exact (M.chkT_ok.1 he).1
    obtain ⟨ho, he, hn0, hn1⟩ := own_each hex
    obtain ⟨j, c, hkj, hj, hH, hlk⟩ := hK.at_ k' hkr.1 hkr.2
    obtain ⟨g, hs, hg, hen⟩ := size_at j hj (fun h => by
      have h1 := hfx
      unfold M.isFix at h1
      simp only [M.Ty.k, hkj] at h1
      rcases h with e | e | e <;> rw [e] at h1 <;> simp at h1)
    replace hlk := hlk false B hI.below
    simp only [ent] at hlk
    rw [hs] at hlk
    rw [← hkj] at hg
    have HG := Lib.hid (fun W => hg n' v W hn0 hn1)
    rw [ho, he] at HG
    have HI := Lib.hid hI
    have cm := hI.m.cell
    have c0 := hBx.c0
    have c1 := hBx.c1
    have c2 := hBx.c2
    have hstn := Lib.hid (stO_next pre ((d, .mk k' n' us), v))
    replace b1 : (stO pre).1 ≤ 1152921504606846976 := b1
    replace b2 : (stO pre).2 d * M.oneN (.mk k' n' us) ≤ 2251799813685248 := b2
    replace b3 : (stO pre).2 d * M.eachN (.mk k' n' us) ≤ 18014398509481984 := b3
    replace b4 : (stO pre).1 + (stO pre).2 d * M.oneN (.mk k' n' us) ≤ 1152921504606846976 := b4
    replace b5 : M.oneN (.mk k' n' us) ≤ 64 := b5
    replace b6 : M.eachN (.mk k' n' us) ≤ 512 := b6
    replace b7 : (stO pre).2 d ≤ 35184372088832 := b7
    replace hd6 : d < 6 := hd6
    have hst1 : Hid ((stO (pre ++ [((d, .mk k' n' us), v)])).1 = (stO pre).1 + (stO pre).2 d * M.oneN (.mk k' n' us)) := by show _ = _; rw [hstn.out]; rfl
    have hst2 : Hid (∀ i, (stO (pre ++ [((d, .mk k' n' us), v)])).2 i = if i = d + 1 then (stO pre).2 d * M.eachN (.mk k' n' us) else (stO pre).2 i) := by show ∀ i, _; intro i; rw [hstn.out]; rfl
    have sB : B.cell? ⟨w.heap.size + 1 + 1, 0, none⟩ = some (.int .i64 ((stO pre).1 : Nat)) := hI.s.cell
    have sF : B.frozen? ⟨w.heap.size + 1 + 1, 0, none⟩ = false := hI.s.frozen
    have mB : B.cell? ⟨w.heap.size + 1 + 1 + 1, d, none⟩ = some (.int .i64 ((stO pre).2 d : Nat)) := hI.mc d (by omega)
    have nB : B.cell? ⟨w.heap.size + 1 + 1 + 1, d + 1, none⟩ = some (.int .i64 ((stO pre).2 (d + 1) : Nat)) := hI.mc (d + 1) (by omega)
    have nF : B.frozen? ⟨w.heap.size + 1 + 1 + 1, d + 1, none⟩ = false := hI.mf (d + 1) (by omega)
    clear hstn
    generalize M.oneN (.mk k' n' us) = on at *
    generalize M.eachN (.mk k' n' us) = en at *
    obtain ⟨T0, hT0⟩ : ∃ q, q = (stO pre).1 := ⟨_, rfl⟩
    obtain ⟨md, hmd⟩ : ∃ q, q = (stO pre).2 d := ⟨_, rfl⟩
    obtain ⟨me, hme⟩ : ∃ q, q = (stO pre).2 (d + 1) := ⟨_, rfl⟩
    rw [← hT0] at sB b1 b4 hst1
    rw [← hmd] at mB b2 b3 b4 b7 hst1
    rw [← hme] at nB
    obtain ⟨P, hP⟩ : ∃ q, q = md * on := ⟨_, rfl⟩
    obtain ⟨Qn, hQ⟩ : ∃ q, q = md * en := ⟨_, rfl⟩
    obtain ⟨S, hS⟩ : ∃ q, q = T0 + P := ⟨_, rfl⟩
    rw [← hP] at b2 b4 hst1
    rw [← hQ] at b3
    rw [← hS] at b4 hst1
    have hst3 : Hid (∀ i, (stO (pre ++ [((d, .mk k' n' us), v)])).2 i = if i = d + 1 then Qn else (stO pre).2 i) := by show ∀ i, _; intro i; rw [hst2.out, ← hmd, ← hQ]
    have hPI : (md : Int) * (on : Int) = (P : Nat) := by rw [hP]; simp
    have hQI : (md : Int) * (en : Int) = (Qn : Nat) := by rw [hQ]; simp
    have k1 : IntKind.i64.wrap ((md : Int) * (on : Int)) = (P : Nat) := by rw [hPI, IntWalk.i64_in _ (by omega)]
    have k2 : IntKind.i64.wrap ((T0 : Int) + (P : Int)) = (S : Nat) := by rw [IntWalk.i64_in _ (by omega)]; omega
    have k3 : wrap64 ((md : Int) * (en : Int)) = (Qn : Nat) := by rw [hQI]; unfold wrap64; omega
    obtain ⟨d1, hd1e⟩ : ∃ d1, d1 = d + 1 := ⟨_, rfl⟩
    have hd1 : (d : Int) + 1 = (d1 : Nat) := by omega
    have hd7 : (d : Int) < 7 := by omega
    have hd8 : (d1 : Int) < 7 := by omega
    rw [← hd1e] at nB nF hst3
    rw [hA1]
    dsimp only [M.Ty.k, M.Ty.n]
    have hfk := field_kind
    clear hst2 hT0 hmd hme hP hQ hS hPI hQI hd1e b1 b2 b3 b4 b5 b6 b7
    clear hkj hI hkr hg hs hex hzs hG hn0 hn1 ho he hfx
    gi_wp2_with fail
    refine ⟨trivial, CallsIn.inRound l ((callsIn_wide.2 (HG.out _)).mono ?_)⟩
    rintro e w2 ⟨rfl, hb2⟩
    have hI2 := Lib.hid (HI.out.go hb2 (by omega))
    have tr := bcell hb2
    have sB2 := (tr.1 _ 0 (by omega : w.heap.size + 1 + 1 < B.heap.size)).trans sB
    have sF2 := (tr.2 _ 0 (by omega : w.heap.size + 1 + 1 < B.heap.size)).trans sF
    have mB2 := (tr.1 _ d (by omega : w.heap.size + 1 + 1 + 1 < B.heap.size)).trans mB
    have nB2 := (tr.1 _ d1 (by omega : w.heap.size + 1 + 1 + 1 < B.heap.size)).trans nB
    have nF2 := (tr.2 _ d1 (by omega : w.heap.size + 1 + 1 + 1 < B.heap.size)).trans nF
    clear tr sB sF mB nB nF cm c0 c1 c2 hlk HG
    have mixed : Tryz.prog.follows .mixedOrders = true := by kernel_rfl
    gi_wp2_with fail
    refine round_still_tail 7 mixed (by kernel_rfl) (by kernel_rfl) ?_
    simp only [List.take_succ_cons, List.take_zero, List.drop_succ_cons, List.drop_zero]
    repeat still_step
    refine wpStill_nil ?_
    change wpList _ _ _ _ _ w2.drew
    go_wp2_with fail
    have hne : ∀ i, (⟨w.heap.size + 1 + 1 + 1, i, none⟩ : Addr) ≠ ⟨w.heap.size + 1 + 1, 0, none⟩ := fun i e => by injection e with h; omega
    obtain ⟨w3, hw3⟩ : ∃ w3, (w2.setCell ⟨w.heap.size + 1 + 1, 0, none⟩ (.int .i64 (S : Nat))).drew = w3 := ⟨_, rfl⟩
    rw [hw3]
    have hko3 : KeepsOthers w2 w3 := by rw [← hw3]; exact (KeepsOthers.setCell _ _ _).trans (KeepsOthers.drew _)
    have hbl3 : ∀ c, c ≠ w.heap.size + 2 → w3.heap[c]? = w2.heap[c]? := fun c hc => by rw [← hw3]; exact Below.heap_setCell _ _ _ _ (by simp; omega)
    have hz3' : w3.heap.size = w2.heap.size := by rw [← hw3]; simp [World.setCell]
    have hBw3 : Below w.heap.size w w3 := by rw [← hw3]; exact (hI2.out.below.setCell (p := ⟨w.heap.size + 1 + 1, 0, none⟩) (by simp; omega) _).drew
    have hs3 : Boxed w3 (w.heap.size + 2) 3 (.int .i64 (S : Nat)) := by rw [← hw3]; exact hI2.out.s.set _
    have hc3 : ∀ i, w3.cell? ⟨w.heap.size + 3, i, none⟩ = w2.cell? ⟨w.heap.size + 3, i, none⟩ := fun i => World.cell?_of_block (a := ⟨w.heap.size + 3, i, none⟩) (hbl3 _ (by simp))
    have hf3 : ∀ i, w3.frozen? ⟨w.heap.size + 3, i, none⟩ = w2.frozen? ⟨w.heap.size + 3, i, none⟩ := fun i => by unfold World.frozen?; rw [hbl3 (w.heap.size + 3) (by omega)]
    have mB3 : w3.cell? ⟨w.heap.size + 1 + 1 + 1, d, none⟩ = some (.int .i64 (md : Nat)) := (hc3 d).trans mB2
    have nB3 : w3.cell? ⟨w.heap.size + 1 + 1 + 1, d1, none⟩ = some (.int .i64 (me : Nat)) := (hc3 d1).trans nB2
    have nF3 : w3.frozen? ⟨w.heap.size + 1 + 1 + 1, d1, none⟩ = false := (hf3 d1).trans nF2
    have HM3 : Hid (∀ i, i < 7 → w3.cell? ⟨w.heap.size + 3, i, none⟩ = some (.int .i64 ((stO pre).2 i : Nat)) ∧ w3.frozen? ⟨w.heap.size + 3, i, none⟩ = false) := fun i hi => ⟨(hc3 i).trans (hI2.out.mc i hi), (hf3 i).trans (hI2.out.mf i hi)⟩
    have HB3 := Lib.hid hbl3
    clear hw3 sB2 sF2 mB2 nB2 nF2 hne hc3 hf3 hbl3
    dsimp only [nrm]
    gi_wp2_with fail
    have hko : KeepsOthers B w2 := ⟨hb2.size, fun c o h _ => (hb2.block c (Array.getElem?_eq_some_iff.1 h).1).trans h⟩
    have hsc : ∀ c, c ≠ w.heap.size + 3 → (w3.setCell ⟨w.heap.size + 1 + 1 + 1, d1, none⟩ (.int .i64 (Qn : Nat))).heap[c]? = w3.heap[c]? := fun c hc => Below.heap_setCell _ _ _ _ (by simp; omega)
    have hall : ∀ c, c ≠ w.heap.size + 2 → c ≠ w.heap.size + 3 → (w3.setCell ⟨w.heap.size + 1 + 1 + 1, d1, none⟩ (.int .i64 (Qn : Nat))).heap[c]? = w2.heap[c]? := fun c h1 h2 => (hsc c h2).trans (HB3.out c h1)
    refine ⟨trivial, ((hko.trans hko3).trans (KeepsOthers.setCell _ _ _)).from _, fun c hc hT => (hall c hT.2.1 hT.2.2).trans (hb2.block c hc), hBw3.setCell (p := ⟨w.heap.size + 1 + 1 + 1, d1, none⟩) (by simp; omega) _, ?_, ?_, ?_, ?_, ?_⟩
    · exact (hall _ (by omega) (by omega)).trans hI2.out.m
    · have ht := hI2.out.t
      have hb := hall (w.heap.size + 4) (by omega) (by omega)
      exact ⟨(World.cell?_of_block (a := ⟨_, 0, none⟩) hb).trans ht.c0, (World.cell?_of_block (a := ⟨_, 1, none⟩) hb).trans ht.c1, (World.cell?_of_block (a := ⟨_, 2, none⟩) hb).trans ht.c2⟩
    · rw [hst1.out]
      exact (hsc _ (by omega)).trans hs3
    · intro i hi
      rw [hst3.out]
      by_cases hid : i = d1
      · rw [if_pos hid, hid]
        exact World.cell?_setCell_same' w3 ⟨w.heap.size + 1 + 1 + 1, d1, none⟩ _ (by rw [nB3]; rfl)
      · rw [if_neg hid]
        rw [← (HM3.out i hi).1]
        simp [go_sem]
    · intro i hi
      rw [← (HM3.out i hi).2]
      simp [go_sem]
  case done =>
    rintro D ys W hD ⟨hys, hon⟩ hI hKd
    have hE : M.szT (.mk k n xs) = (stO ys).1 := by
      rw [← M.flat_size hchk hfix, ← hys]
      rfl
    rw [hE] at hr
    have cs' : W.cell? ⟨w.heap.size + 1 + 1, 0, none⟩ = some (.int .i64 ((stO ys).1 : Nat)) := hI.s.cell
    have HI := Lib.hid hI
    have HR := Lib.hid hr
    clear hE hI hr
    gi_wp2
    refine ⟨by simp, .inl ⟨_, _, rfl, run_takeDeferred hKd, ?_⟩⟩
    refine ⟨.int .i64 ((stO ys).1 : Nat), ?_, by rw [HR.out], HI.out.below.trans (belowK_b (w := w) (Nat.le_refl _) W D _ _ (by omega) hKd rfl rfl)⟩
    simp [results, Tryz.f39, go_sem]
  case stop =>
    rintro D y W hD ⟨ys, zs, hfl, hon, hoff⟩ hX hKd
    exact hX.elim
end Go.Proofs.YtemnjoiajmcpjaaGreatDoor
namespace Go.Proofs.YtemnjoiajmcpjaaGreatDoor
open Go Go.RowKit Go.Shelf
attribute [local go_sem] Oper.semAt_some

/-- The four values of a word, by place. -/
def at4 (a0 a1 a2 a3 : Int) : Fin 4 → Int
  | 0 => a0
  | 1 => a1
  | 2 => a2
  | 3 => a3

abbrev enc4 (a0 a1 a2 a3 : Int) (i : Fin 4) : Array Value := #[.int .i64 (i.val : Int), .int .u64 (at4 a0 a1 a2 a3 i)]

/-- What a round that goes on keeps: the cells of one block. -/
def KeepsB (b : Nat) (W W' : World) : Prop := ∀ j, W'.cell? ⟨b, j, none⟩ = W.cell? ⟨b, j, none⟩
theorem keepsB_t {b : Nat} {A B C : World} (h : KeepsB b A B) (k : KeepsB b B C) : KeepsB b A C := fun j => (k j).trans (h j)
theorem keepsB_b {b : Nat} {w : World} (hb : b < w.heap.size) (W : World) (l : Nat) (o o' : Obj) (hl : w.heap.size ≤ l) (h : W.heap[l]? = some o) (h1 : o.isCells = false) (h2 : o.isWalk = false) : KeepsB b W (W.putObj l o') :=
  fun j => (belowK_b (n₀ := w.heap.size) (w := w) (Nat.le_refl _) W l o o' hl h h1 h2).cell (p := ⟨b, j, none⟩) hb

set_option maxHeartbeats 1000000 in
theorem top_in (F : Fence) (n : Nat) (hf : F.fn 125) (hro : F.round = none) (a0 a1 a2 a3 : Int) (w : World) :
    CallsIn F n Tryz.prog 125 #[wd a0 a1 a2 a3] w fun e w' =>
      e = .returned (.func (.func 144) #[] #[.pointer (some ⟨w.heap.size, 0, none⟩)]) ∧ w' = w.alloc (.cells #[.int .u64 a0, .int .u64 a1, .int .u64 a2, .int .u64 a3] 27) := by
  refine callsIn_of_wp Tryz.func125 rfl hf ?_ hro
  simp only [Tryz.ntmps125, List.size_toArray, List.length_cons, List.length_nil, Nat.reduceAdd, Nat.reduceSub, Array.replicate_succ, Array.replicate_zero, List.push_toArray, List.append_toArray, List.nil_append, List.cons_append]
  gi_wp2
  go_ret
  exact ⟨rfl, rfl⟩

set_option maxRecDepth 100000 in
set_option maxHeartbeats 2000000 in
theorem top_stops (F : Fence) (n : Nat) (hf : F.fn 144) (hro : F.round = none) (hn : 1 ≤ n) (Bn : Nat) (a0 a1 a2 a3 : Int) (w : World) (hBn : Bn < w.heap.size)
    (c0 : w.cell? ⟨Bn, 0, none⟩ = some (.int .u64 a0)) (c1 : w.cell? ⟨Bn, 1, none⟩ = some (.int .u64 a1)) (c2 : w.cell? ⟨Bn, 2, none⟩ = some (.int .u64 a2)) (c3 : w.cell? ⟨Bn, 3, none⟩ = some (.int .u64 a3)) :
    SeqStopsK F n Tryz.prog 144 #[.pointer (some ⟨Bn, 0, none⟩)] (enc4 a0 a1 a2 a3) (KeepsB Bn) (fun xs => xs = [3, 2, 1, 0]) (fun pre => pre = [3] ∨ pre = [3, 2] ∨ pre = [3, 2, 1] ∨ pre = [3, 2, 1, 0]) 4 w := fun l J Jx W hW _ _ hY h0 => by
  have d3 := (hW.cell (p := ⟨Bn, 3, none⟩) hBn).trans c3
  have d2 := (hW.cell (p := ⟨Bn, 2, none⟩) hBn).trans c2
  have d1 := (hW.cell (p := ⟨Bn, 1, none⟩) hBn).trans c1
  have d0 := (hW.cell (p := ⟨Bn, 0, none⟩) hBn).trans c0
  clear c0 c1 c2 c3
  refine callsIn_of_wp Tryz.func144 rfl hf ?_ hro
  simp only [Tryz.ntmps144, List.size_toArray, List.length_cons, List.length_nil, Nat.reduceAdd, Nat.reduceSub, Array.replicate_succ, Array.replicate_zero, List.push_toArray, List.append_toArray, List.nil_append, List.cons_append]
  gi_wp2
  refine wpIn_loop_rounds 5 ?_
  rw [roundsIn_succ]
  obtain ⟨f1, t1, as1, b1, hy1, hR1⟩ := hY [] 3 W h0 (by simp)
  replace hy1 : (Instr.yield l #[.int .i64 3, .int .u64 a3]).run Tryz.prog W = .ok (.round l f1 t1 as1 b1) W := hy1
  gi_wp2
  refine hR1.mono ?_
  clear hy1 hR1
  rintro e W1 (⟨rfl, hJ1, hk⟩ | ⟨rfl, hx⟩)
  · replace d2 := (hk 2).trans d2
    replace d1 := (hk 1).trans d1
    replace d0 := (hk 0).trans d0
    clear d3 hk
    obtain ⟨f1, t1, as1, b1, hy1, hR1⟩ := hY [3] 2 W1 hJ1 (by simp)
    replace hy1 : (Instr.yield l #[.int .i64 2, .int .u64 a2]).run Tryz.prog W1 = .ok (.round l f1 t1 as1 b1) W1 := hy1
    gi_wp2
    rw [roundsIn_succ]
    gi_wp2
    refine hR1.mono ?_
    clear hy1 hR1
    rintro e W2 (⟨rfl, hJ2, hk⟩ | ⟨rfl, hx⟩)
    · replace d1 := (hk 1).trans d1
      replace d0 := (hk 0).trans d0
      clear d2 hk
      obtain ⟨f1, t1, as1, b1, hy1, hR1⟩ := hY [3, 2] 1 W2 hJ2 (by simp)
      replace hy1 : (Instr.yield l #[.int .i64 1, .int .u64 a1]).run Tryz.prog W2 = .ok (.round l f1 t1 as1 b1) W2 := hy1
      gi_wp2
      rw [roundsIn_succ]
      gi_wp2
      refine hR1.mono ?_
      clear hy1 hR1
      rintro e W3 (⟨rfl, hJ3, hk⟩ | ⟨rfl, hx⟩)
      · replace d0 := (hk 0).trans d0
        clear d1 hk
        obtain ⟨f1, t1, as1, b1, hy1, hR1⟩ := hY [3, 2, 1] 0 W3 hJ3 (by simp)
        replace hy1 : (Instr.yield l #[.int .i64 0, .int .u64 a0]).run Tryz.prog W3 = .ok (.round l f1 t1 as1 b1) W3 := hy1
        gi_wp2
        rw [roundsIn_succ]
        gi_wp2
        refine hR1.mono ?_
        clear hy1 hR1
        rintro e W4 (⟨rfl, hJ4, hk⟩ | ⟨rfl, hx⟩)
        · clear d0 hk
          gi_wp2
          rw [roundsIn_succ]
          gi_wp2
          go_end0
          exact ⟨⟨_, rfl⟩, .inl ⟨_, rfl, hJ4⟩⟩
        · gi_wp2
          refine bodyPost_ret (results_none rfl _ _ _) rfl ?_
          exact ⟨⟨_, rfl⟩, .inr ⟨_, .inr (.inr (.inr rfl)), hx⟩⟩
      · gi_wp2
        refine bodyPost_ret (results_none rfl _ _ _) rfl ?_
        exact ⟨⟨_, rfl⟩, .inr ⟨_, .inr (.inr (.inl rfl)), hx⟩⟩
    · gi_wp2
      refine bodyPost_ret (results_none rfl _ _ _) rfl ?_
      exact ⟨⟨_, rfl⟩, .inr ⟨_, .inr (.inl rfl), hx⟩⟩
  · gi_wp2
    refine bodyPost_ret (results_none rfl _ _ _) rfl ?_
    exact ⟨⟨_, rfl⟩, .inr ⟨_, .inl rfl, hx⟩⟩
end Go.Proofs.YtemnjoiajmcpjaaGreatDoor
