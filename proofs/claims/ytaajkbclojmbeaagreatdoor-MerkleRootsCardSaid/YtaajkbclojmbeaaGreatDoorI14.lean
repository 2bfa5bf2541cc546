/- The landed package ssz: putRow. Plain: what holds of a row's bytes, for the landed package's putRow. What the calls of package ssz must do. Values in memory have numbers of 256 bits. -/
import Derived.Test.YtaajkbclojmbeaaGreatDoorI12
import Derived.Test.YtaajkbclojmbeaaGreatDoorI13
import Derived.Test.YtaajkbclojmbeaaGreatDoorI09
import Derived.Test.YtaajkbclojmbeaaGreatDoorI02
namespace Go.Proofs.YtaajkbclojmbeaaGreatDoor
open Go Go.RowKit Go.Lib
attribute [local go_sem] Oper.semAt_some

/-- Between two rounds of the first loop. -/
structure RS (A : World) (nb : Nat) (pre : List Ep) (W : World) : Prop where
  gr : Gr A W (fun b => b = nb)
  nx : Boxed W nb 3 (.int .i64 (nxt pre : Nat))
  mo : nxt pre ≤ 1000000 * pre.length
theorem RS_own {A : World} {nb : Nat} (hn : nb < A.heap.size) : OwnFrom A.heap.size (RS A nb) := fun _ _ _ row h hg hr =>
  ⟨h.gr.grow hg fun j e => .inl (hr j e).1, h.nx.kept hg (fun e => by have := (hr _ e.symm).1; omega), h.mo⟩
theorem RS.other {A W W' : World} {nb : Nat} {pre : List Ep} (h : RS A nb pre W) (hn : nb < A.heap.size) {r : Nat} (hg : W.grownBy W' (some r)) (hr : A.heap.size ≤ r) : RS A nb pre W' :=
  ⟨h.gr.grow hg fun j e => by cases e; exact .inl hr, h.nx.kept hg (fun e => by cases e; omega), h.mo⟩
/-- The loop's variables are assigned to: a box for the part. -/
def RSx (A w0 : World) (ts : List M.Ty) (items nb : Nat) (A1 : Nat → Ep → Act) (pre : List Ep) (x : Ep) (a' : Act) (B : World) : Prop :=
  ∃ (bx : Nat) (k n : Int) (us : List M.Ty), x.1.2 = .mk k n us ∧ GoodP w0 ts items pre x ∧ a' = A1 bx x ∧ RS A nb pre B ∧ PBox B bx k n x.2 (M.fixedT x.1.2) (wdT x.1.2) ∧ A.heap.size + 2 ≤ bx ∧ bx < B.heap.size
theorem RSx_own {A w0 : World} {ts : List M.Ty} {items nb : Nat} (hn : nb < A.heap.size) {A1 : Nat → Ep → Act} (pre : List Ep) (x : Ep) (a' : Act) : OwnFrom A.heap.size fun (_ : Unit) W => RSx A w0 ts items nb A1 pre x a' W := by
  rintro _ W W' row ⟨bx, k, n, us, h1, h2, h3, h4, h5, h6, h7⟩ hg hr
  exact ⟨bx, k, n, us, h1, h2, h3, RS_own hn pre _ _ row h4 hg hr, (hg.block bx h7 (fun e => by
    obtain ⟨o, ho, hc⟩ := (hr _ e.symm).2
    rw [show W.heap[bx]? = _ from h5] at ho
    cases ho
    cases hc)).trans h5, h6, Nat.lt_of_lt_of_le h7 hg.size⟩

/-- What put must do, of values of a size. -/
def PutP (w : World) (l : List UInt8) (e : Ending) (w' : World) : Prop := (l.length ≤ 65536 → ∃ u, e = .returned u ∧ SrB w.heap.size l u w') ∧ (65536 < l.length → e = pan 5) ∧ Below w.heap.size w w'
def PutC (z : Nat) : Prop := ∀ (k n : Int) (ts : List M.Ty) (a : Option Addr) (cap : Nat) (N : Nat) (bs : List Bool) (us : List M.Va) (p : Int) (ab : Option Addr) (cb : Nat) (au : Option Addr) (cu : Nat) (w : World), SizeOf.sizeOf us ≤ z → LayT w w.heap.size ts (.slice a ts.length cap) → Vl w w.heap.size N bs us ab cb au cu →
  (∃ d, M.chkT d (.mk k n ts) = 0) → M.fitV (.mk k n ts) (.mk N bs us p) = 0 → M.cntT (.mk k n ts) ≤ 1000 → M.cntV (.mk N bs us p) ≤ 6000 →
  Calls Tryz.prog 144 #[tv k n (.slice a ts.length cap), vv N (.slice ab bs.length cb) (.slice au us.length cu) p] w (PutP w (M.putV (.mk k n ts) (.mk N bs us p)))
/-- A panic with an error, as it is handed on. -/
abbrev panC (q : Nat) : List PanicEntry := [{ v := .iface 25 (.int .i64 (q : Nat)), recovered := false }]
theorem KO_below {W W' : World} (hb : Below W.heap.size W W') : KeepsOthers W W' := ⟨hb.size, fun c _ h _ => (hb.block c (Array.getElem?_eq_some_iff.1 h).1).trans h⟩
theorem Ow.notCells {B : Nat} {l : List UInt8} {v : Value} {w : World} (h : Ow B l v w) {c : Nat} {o : Obj} (hc : w.heap[c]? = some o) (ho : o.isCells = false) : some c ≠ v.ownBlock := fun e => by
  rcases h.2 with ⟨rfl, _⟩ | ⟨g', cap', cur', rfl, _, hg', _⟩
  · cases e
  · cases e
    rw [hg'] at hc
    cases hc
    cases ho
theorem KO_app {W W1 : World} {B : Nat} {l s : List UInt8} {v v' : Value} (hA : AppP W W1 B s v v') (hO : Ow B l v W) : KeepsOthers W W1 :=
  ⟨hA.grown.size, fun c _ h ho => (hA.grown.block c (Array.getElem?_eq_some_iff.1 h).1 (hO.notCells h ho)).trans h⟩
/-- Bytes that may be read, where a block that holds no cells is changed. -/
theorem SrB.put {B : Nat} {l : List UInt8} {v : Value} {w : World} (h : SrB B l v w) {k : Nat} {o : Obj} (hk : w.heap[k]? = some o) (ho : o.isCells = false) (o' : Obj) : SrB B l v (w.putObj k o') := by
  rcases h with h | ⟨ad, c, rfl, h1, h2, hc⟩
  · exact .inl h
  · exact .inr ⟨ad, c, rfl, h1, by simpa [World.putObj] using h2, fun j u hj => cell_kept (hc j u hj) (grownBy_putObj' w k o') (fun r e => by cases e; exact ⟨o, hk, ho⟩)⟩
/-- Between two rounds of the second loop: the place of what comes next, the beginning, and what is behind it. -/
structure RG (A : World) (nb bb bd m : Nat) (l1 l2 : List UInt8) (W : World) : Prop where
  gr : Gr A W (fun b => b = nb ∨ b = bb ∨ b = bd)
  nx : Boxed W nb 3 (.int .i64 (m : Nat))
  v : ∃ v1 v2, Boxed W bb 41 v1 ∧ Boxed W bd 41 v2 ∧ Ow (A.heap.size + 3) l1 v1 W ∧ Ow (A.heap.size + 3) l2 v2 W ∧ ∀ g, v1.ownBlock = some g → v2.ownBlock ≠ some g
theorem RG.grow {A W W' : World} {nb bb bd m : Nat} {l1 l2 : List UInt8} {row : Option Nat} (h : RG A nb bb bd m l1 l2 W) (hg : W.grownBy W' row) (hn : nb < A.heap.size) (hb : bb < A.heap.size) (hd : bd < A.heap.size) (hr : ∀ j, row = some j → A.heap.size ≤ j ∧ (j < A.heap.size + 3 ∨ ∃ o : Obj, W.heap[j]? = some o ∧ o.isCells = false)) : RG A nb bb bd m l1 l2 W' := by
  obtain ⟨v1, v2, h1, h2, h3, h4, h5⟩ := h.v
  have key : ∀ {l : List UInt8} {v : Value}, Ow (A.heap.size + 3) l v W → Ow (A.heap.size + 3) l v W' := fun {l v} ho => ho.grown hg fun g hgv e => by
    have hlt := ho.lt g hgv
    rcases (hr g e).2 with h | ⟨o, h, hc⟩
    · omega
    · rcases ho.2 with ⟨rfl, _⟩ | ⟨g', cap, cur, rfl, _, hg', _⟩
      · cases hgv
      · cases hgv
        rw [hg'] at h
        cases h
        cases hc
  exact ⟨h.gr.grow hg fun j e => .inl (hr j e).1, h.nx.kept hg (fun e => by have := (hr _ e.symm).1; omega), v1, v2, h1.kept hg (fun e => by have := (hr _ e.symm).1; omega), h2.kept hg (fun e => by have := (hr _ e.symm).1; omega), key h3, key h4, h5⟩
theorem RG.below {A W W' : World} {nb bb bd m : Nat} {l1 l2 : List UInt8} (h : RG A nb bb bd m l1 l2 W) (hb : Below W.heap.size W W') (hn : nb < A.heap.size) (hb' : bb < A.heap.size) (hd : bd < A.heap.size) : RG A nb bb bd m l1 l2 W' :=
  h.grow (row := none) ⟨hb.os, hb.tape, hb.output, hb.size, fun i hi _ => hb.block i hi⟩ hn hb' hd (fun _ e => by cases e)
theorem RG.first {A W W1 : World} {nb bb bd m : Nat} {l1 l2 s : List UInt8} {v1 v2 v' : Value} (hgr : Gr A W (fun b => b = nb ∨ b = bb ∨ b = bd)) (hnx : Boxed W nb 3 (.int .i64 (m : Nat))) (h1 : Boxed W bb 41 v1) (h2 : Boxed W bd 41 v2) (h3 : Ow (A.heap.size + 3) l1 v1 W) (h4 : Ow (A.heap.size + 3) l2 v2 W) (h5 : ∀ g, v1.ownBlock = some g → v2.ownBlock ≠ some g)
    (hn : nb < A.heap.size) (hb : bb < A.heap.size) (hd : bd < A.heap.size) (hnb : nb ≠ bb) (hdb : bd ≠ bb) (hA : AppP W W1 (A.heap.size + 3) s v1 v') :
    RG A nb bb bd m s l2 (W1.setCell ⟨bb, 0, none⟩ v') ∧ Boxed W1 bb 41 v1 ∧ (∀ b, b < A.heap.size + 3 → b ≠ bb → (W1.setCell ⟨bb, 0, none⟩ v').heap[b]? = W.heap[b]? ∨ W.heap.size ≤ b) := by
  have hrow : ∀ k, v1.ownBlock = some k → A.heap.size + 3 ≤ k ∧ k < W.heap.size := h3.lt
  have hsz := hgr.size
  have hB1 : Boxed W1 bb 41 v1 := h1.kept hA.grown (fun e => by have := hrow _ e.symm; omega)
  have hD1 : Boxed W1 bd 41 v2 := h2.kept hA.grown (fun e => by have := hrow _ e.symm; omega)
  have hN1 : Boxed W1 nb 3 (.int .i64 (m : Nat)) := hnx.kept hA.grown (fun e => by have := hrow _ e.symm; omega)
  have h41 : Ow (A.heap.size + 3) l2 v2 W1 := h4.grown hA.grown fun g hg e => h5 g e hg
  have hgs := grownBy_setCell' W1 bb v'
  refine ⟨⟨(hgr.grow hA.grown fun j e => .inl (by have := hrow j e; omega)).set _ _ (.inr (.inr (.inl rfl))), hN1.other hnb _, v', v2, hB1.set _, hD1.other hdb _, hA.own.grown hgs fun g hg e => ?_, h41.grown hgs fun g hg e => ?_, fun g hg hg2 => ?_⟩, hB1, fun b hb' hne => ?_⟩
  · cases e
    have := (hA.own.lt _ hg).1
    omega
  · cases e
    have := (h4.lt _ hg).1
    omega
  · rcases hA.blk with e | e
    · exact h5 g (e ▸ hg) hg2
    · have := e g hg
      have := (h4.lt g hg2).2
      omega
  · by_cases hbs : b < W.heap.size
    · exact .inl ((Below.heap_setCell _ _ _ b hne).trans (hA.grown.block b hbs fun e => by have := hrow b e.symm; omega))
    · exact .inr (by omega)
theorem RG.then_ {A W W1 : World} {nb bb bd m : Nat} {l1 l2 s : List UInt8} {v1 v2 v' : Value} (hgr : Gr A W (fun b => b = nb ∨ b = bb ∨ b = bd)) (hnx : Boxed W nb 3 (.int .i64 (m : Nat))) (h1 : Boxed W bb 41 v1) (h2 : Boxed W bd 41 v2) (h3 : Ow (A.heap.size + 3) l1 v1 W) (h4 : Ow (A.heap.size + 3) l2 v2 W) (h5 : ∀ g, v1.ownBlock = some g → v2.ownBlock ≠ some g)
    (hn : nb < A.heap.size) (hb : bb < A.heap.size) (hd : bd < A.heap.size) (hnb : nb ≠ bd) (hdb : bb ≠ bd) (hA : AppP W W1 (A.heap.size + 3) s v2 v') :
    RG A nb bb bd m l1 s (W1.setCell ⟨bd, 0, none⟩ v') ∧ Boxed W1 bd 41 v2 ∧ (∀ b, b < A.heap.size + 3 → b ≠ bd → (W1.setCell ⟨bd, 0, none⟩ v').heap[b]? = W.heap[b]? ∨ W.heap.size ≤ b) := by
  have hrow : ∀ k, v2.ownBlock = some k → A.heap.size + 3 ≤ k ∧ k < W.heap.size := h4.lt
  have hsz := hgr.size
  have hB1 : Boxed W1 bb 41 v1 := h1.kept hA.grown (fun e => by have := hrow _ e.symm; omega)
  have hD1 : Boxed W1 bd 41 v2 := h2.kept hA.grown (fun e => by have := hrow _ e.symm; omega)
  have hN1 : Boxed W1 nb 3 (.int .i64 (m : Nat)) := hnx.kept hA.grown (fun e => by have := hrow _ e.symm; omega)
  have h31 : Ow (A.heap.size + 3) l1 v1 W1 := h3.grown hA.grown fun g hg e => h5 g hg e
  have hgs := grownBy_setCell' W1 bd v'
  refine ⟨⟨(hgr.grow hA.grown fun j e => .inl (by have := hrow j e; omega)).set _ _ (.inr (.inr (.inr rfl))), hN1.other hnb _, v1, v', hB1.other hdb _, hD1.set _, h31.grown hgs fun g hg e => ?_, hA.own.grown hgs fun g hg e => ?_, fun g hg hg2 => ?_⟩, hD1, fun b hb' hne => ?_⟩
  · cases e
    have := (h3.lt _ hg).1
    omega
  · cases e
    have := (hA.own.lt _ hg).1
    omega
  · rcases hA.blk with e | e
    · exact h5 g hg (e ▸ hg2)
    · have := e g hg2
      have := (h3.lt g hg).2
      omega
  · by_cases hbs : b < W.heap.size
    · exact .inl ((Below.heap_setCell _ _ _ b hne).trans (hA.grown.block b hbs fun e => by have := hrow b e.symm; omega))
    · exact .inr (by omega)
theorem RG.next {A W : World} {nb bb bd m m' : Nat} {l1 l2 : List UInt8} (h : RG A nb bb bd m l1 l2 W) (hn : nb < A.heap.size) (hnb : nb ≠ bb) (hnd : nb ≠ bd) : RG A nb bb bd m' l1 l2 (W.setCell ⟨nb, 0, none⟩ (.int .i64 (m' : Nat))) := by
  obtain ⟨v1, v2, h1, h2, h3, h4, h5⟩ := h.v
  have hgs := grownBy_setCell' W nb (.int .i64 (m' : Nat))
  exact ⟨h.gr.set _ _ (.inr (.inl rfl)), h.nx.set _, v1, v2, h1.other (Ne.symm hnb) _, h2.other (Ne.symm hnd) _, h3.grown hgs fun g hg e => by cases e; have := (h3.lt _ hg).1; omega, h4.grown hgs fun g hg e => by cases e; have := (h4.lt _ hg).1; omega, h5⟩
theorem RG.drew {A W : World} {nb bb bd m : Nat} {l1 l2 : List UInt8} (h : RG A nb bb bd m l1 l2 W) : RG A nb bb bd m l1 l2 W.drew := ⟨h.gr.drew, h.nx, h.v⟩
/-- The loop's variables are assigned to: a box for the part. -/
def RGx (A w0 : World) (ts : List M.Ty) (items : Nat) (I : List Ep → World → Prop) (A1 : Nat → Ep → Act) (pre : List Ep) (x : Ep) (a' : Act) (B : World) : Prop :=
  ∃ (bx : Nat) (k n : Int) (us : List M.Ty), x.1.2 = .mk k n us ∧ GoodP w0 ts items pre x ∧ a' = A1 bx x ∧ I pre B ∧ PBox B bx k n x.2 (M.fixedT x.1.2) (wdT x.1.2) ∧ A.heap.size + 2 ≤ bx ∧ bx < B.heap.size
theorem RGx_own {A w0 : World} {ts : List M.Ty} {items : Nat} {I : List Ep → World → Prop} (hI : OwnFrom A.heap.size I) {A1 : Nat → Ep → Act} (pre : List Ep) (x : Ep) (a' : Act) : OwnFrom A.heap.size fun (_ : Unit) W => RGx A w0 ts items I A1 pre x a' W := by
  rintro _ W W' row ⟨bx, k, n, us, h1, h2, h3, h4, h5, h6, h7⟩ hg hr
  exact ⟨bx, k, n, us, h1, h2, h3, hI pre _ _ row h4 hg hr, (hg.block bx h7 (fun e => by
    obtain ⟨o, ho, hc⟩ := (hr _ e.symm).2
    rw [show W.heap[bx]? = _ from h5] at ho
    cases ho
    cases hc)).trans h5, h6, Nat.lt_of_lt_of_le h7 hg.size⟩

set_option maxRecDepth 100000 in
set_option maxHeartbeats 4000000 in
theorem putRow_n (z : Nat) (ih : Hid (PutC z)) (k n : Int) (ts : List M.Ty) (a : Option Addr) (cap : Nat) (us : List M.Va) (au : Option Addr) (cu : Nat) (p : Int) (w : World) (hL : LayT w w.heap.size ts (.slice a ts.length cap)) (hV : LayV w w.heap.size us (.slice au us.length cu)) (hct : M.cntTs ts ≤ 999) (hcv : M.cntVs us ≤ 5999) (ht : us.length ≠ 0 → 1 ≤ ts.length) (hs : SizeOf.sizeOf us ≤ z + 1)
    (hin : Hid (∀ j, j < us.length → M.inT k ts p j = M.tyAt ts j)) (hchk : Hid (∀ j, j < us.length → ∃ e, M.chkT e (M.tyAt ts j) = 0)) (hfit : Hid (M.fitVs k ts p 0 us = 0)) (hwd : ∀ i, i < us.length → wdT (M.tyAt ts i) ≤ 1000000) (L : List UInt8) (hd : Nat) (hdE : Hid (hd = M.hdLen ((List.range us.length).map fun i => kdT (M.tyAt ts i))))
    (hLE : Hid (M.rowH hd (M.putVs k ts p 0 us) ++ M.rowL (M.putVs k ts p 0 us) = L)) (hLm : Hid (∀ j, j ≤ us.length → hd + (M.rowL (M.putVs k ts p 0 (us.take j))).length ≤ L.length)) (hLp : Hid (∀ j x, us[j]? = some x → (M.putV (M.tyAt ts j) x).length ≤ L.length)) (hLh : Hid (∀ j, j ≤ us.length → (M.rowH hd (M.putVs k ts p 0 (us.take j))).length ≤ 300000)) (hL3 : L.length ≤ 300000) :
    Calls Tryz.prog 177 #[tv k n (.slice a ts.length cap), .slice au us.length cu] w fun e w' => ((∃ u, e = .returned u ∧ SrB w.heap.size L u w') ∨ (e = pan 5 ∧ 65536 < L.length)) ∧ Below w.heap.size w w' := by
  have hul := M.length_cntV us
  refine calls_of_wpE (n := 6) Tryz.func177 rfl ?_
  simp only [Tryz.ntmps177, List.size_toArray, List.length_cons, List.length_nil, Nat.reduceAdd, Nat.reduceSub, Array.replicate_succ, Array.replicate_zero, List.push_toArray, List.append_toArray, List.nil_append, List.cons_append]
  refine wpE_then (n := 6) ?_
  gi_wp2_with fail
  refine wpE_then (n := 6) ?_
  gi_wp2_with fail
  refine wpE_seq ?_
  refine wpE_then (n := 6) ?_
  gi_wp2_with fail
  refine ⟨trivial, (callsIn_wide.2 (parts_any k n (.slice a ts.length cap) us.length _)).mono ?_⟩
  rintro e w' ⟨rfl, rfl⟩
  gi_wp2_with fail
  obtain ⟨A, hA⟩ : ∃ A, (((((w.alloc (.cells #[.int .i64 k, .int .i64 n, .slice a ts.length cap] 32)).alloc (.cells #[.slice au us.length cu] 36)).alloc (.cells #[.int .i64 0] 3)).alloc (.cells #[.int .i64 k, .int .i64 n, .slice a ts.length cap] 32)).alloc (.cells #[.int .i64 us.length] 3)) = A := ⟨_, rfl⟩
  rw [hA]
  have hzA : A.heap.size = w.heap.size + 5 := by rw [← hA]; simp
  have hbA : Below w.heap.size w A := by rw [← hA]; (repeat (first | exact Below.refl _ _ | refine Below.drew ?_ | refine Below.alloc ?_ (by first | omega | (simp; omega) | simp) _ | refine Below.setCell ?_ (by first | omega | (simp; omega) | simp) _))
  have hA2 : BoxT A w.heap.size k n (.slice a ts.length cap) := by rw [← hA]; exact ⟨by simp [go_sem], by simp [go_sem], by simp [go_sem]⟩
  have hA3 : Boxed A (w.heap.size + 1) 36 (.slice au us.length cu) := by
    rw [← hA]
    have := Boxed.new (w.alloc (.cells #[.int .i64 k, .int .i64 n, .slice a ts.length cap] 32)) 36 (.slice au us.length cu)
    rw [World.size_alloc] at this
    exact ((this.alloc _).alloc _).alloc _
  have hA5 : Boxed A (w.heap.size + 2) 3 (.int .i64 0) := by
    rw [← hA]
    have := Boxed.new ((w.alloc (.cells #[.int .i64 k, .int .i64 n, .slice a ts.length cap] 32)).alloc (.cells #[.slice au us.length cu] 36)) 3 (.int .i64 0)
    rw [World.size_alloc, World.size_alloc] at this
    exact (this.alloc _).alloc _
  have hA6 : BoxT A (w.heap.size + 3) k n (.slice a ts.length cap) := by rw [← hA]; exact ⟨by simp [go_sem], by simp [go_sem], by simp [go_sem]⟩
  have hA7 : A.cell? ⟨w.heap.size + 4, 0, none⟩ = some (.int .i64 us.length) := by rw [← hA]; simp [go_sem]
  clear hA
  refine wpE_block ?_
  obtain ⟨A1, hA1⟩ : ∃ A1 : Nat → Ep → Act, A1 = fun bx x => { tmps := List.toArray (tv k n (.slice a ts.length cap) :: .slice au us.length cu :: .pointer (some ⟨w.heap.size, 0, none⟩) :: .pointer (some ⟨w.heap.size + 1, 0, none⟩) :: .slice none 0 0 :: .pointer (some ⟨w.heap.size + 1 + 1, 0, none⟩) :: undef :: .pointer (some ⟨bx, 0, none⟩) :: undef :: undef :: undef :: undef :: undef :: .agg #[.int .i64 k, .int .i64 n, .slice a ts.length cap] :: .slice au us.length cu :: .int .i64 us.length :: .func (.func 189) #[] #[.pointer (some ⟨w.heap.size + 1 + 1 + 1 + 1, 0, none⟩), .pointer (some ⟨w.heap.size + 1 + 1 + 1, 0, none⟩)] :: .int .i64 (x.1.1 : Nat) :: pv x.1.2.k x.1.2.n x.2 (M.fixedT x.1.2) (wdT x.1.2) :: undef :: undef :: undef :: undef :: undef :: undef :: undef :: undef :: undef :: undef :: undef :: undef :: undef :: undef :: undef :: undef :: undef :: undef :: undef :: undef :: undef :: undef :: undef :: undef :: undef :: undef :: undef :: undef :: undef :: undef :: undef :: undef :: undef :: undef :: undef :: undef :: undef :: undef :: undef :: []), defers := [] } := ⟨_, rfl⟩
  refine range_lx (n := 6) (gf := 189) (lb := #[.pointer (some ⟨w.heap.size + 1 + 1 + 1 + 1, 0, none⟩), .pointer (some ⟨w.heap.size + 1 + 1 + 1, 0, none⟩)]) (by omega) rfl (enters_of Tryz.func189 (by kernel_rfl) rfl)
    (encs := encP) (fun x => by obtain ⟨⟨d, ⟨k', n', us'⟩⟩, v⟩ := x; rfl) (RS A (w.heap.size + 2)) (RS_own (by omega)) (fun pre X Y h hg => h.other (by omega) hg (by omega)) (fun _ _ => False)
    (fun c => c ≠ w.heap.size + 2 ∧ c ≠ A.heap.size + 1) (fun c h => h.2) (AllP ts us.length) (fun pre x => GoodP w ts us.length pre x) ?seq ⟨Gr.refl _ _, hA5, by simp [nxt, M.hdLen]⟩ (RSx A w ts us.length (w.heap.size + 2) A1) (fun pre x a' => RSx_own (by omega) pre x a') ?assign ?body ?done ?pan
  case seq =>
    intro l J Jp W hzW hJI hJ hY h0
    have HT : PartH w ts us.length (fun c => c ≠ w.heap.size + 2 ∧ c ≠ A.heap.size + 1) (A.heap.size + 2) l (w.heap.size + 3) (w.heap.size + 4) k n (.slice a ts.length cap) J Jp :=
      ⟨hJ, fun pre X h => Gr.low hbA (hJI pre X h).gr (by omega) (fun b e => by omega), fun pre X h => hA6.ofGr (hJI pre X h).gr (by omega) (by omega), fun pre X h => ((hJI pre X h).gr.cell (p := ⟨w.heap.size + 4, 0, none⟩) (by simp; omega) (by simp)).trans hA7, by omega, hY⟩
    exact parts_seq w ts us.length _ _ l _ _ k n a cap J Jp HT _ hL hct (by omega) ht (by omega) W hzW h0
  case assign =>
    rintro l pre ⟨⟨d, ⟨k', n', us'⟩⟩, v⟩ X K hI hz hG hK'
    obtain ⟨ua, uc, hu, _, _⟩ := hG.2.2.2.slice
    replace hu : v = .slice ua us'.length uc := hu
    subst hu
    dsimp only [encP]
    have hAX : RSx A w ts us.length (w.heap.size + 2) A1 pre ((d, .mk k' n' us'), .slice ua us'.length uc) (A1 X.heap.size ((d, .mk k' n' us'), .slice ua us'.length uc)) (X.alloc (.cells #[.int .i64 k', .int .i64 n', .slice ua us'.length uc, .bool (M.fixedT (.mk k' n' us')), .int .i64 (wdT (.mk k' n' us') : Nat)] 181)) :=
      ⟨X.heap.size, k', n', us', rfl, hG, rfl, RS_own (by omega) pre _ _ none hI (World.grownBy_alloc _ _ _) (fun r e => by cases e), World.alloc_heap_new X _, hz, by simp⟩
    rw [hA1] at hAX
    gi_wp2
    refine hK' _ _ ((KeepsOthers.alloc X _).from _) (fun c hc _ => Below.heap_alloc _ _ _ (by omega)) ?_
    rw [hA1]
    exact hAX
  case body =>
    rintro l pre ⟨⟨d, ⟨k', n', us'⟩⟩, v⟩ a' B ⟨bx, k2, n2, us2, hx, hG, rfl, hI, hBx, h4, h5⟩
    cases hx
    obtain ⟨ua, uc, hu, _, _⟩ := hG.2.2.2.slice
    replace hu : v = .slice ua us'.length uc := hu
    subst hu
    replace hBx : PBox B bx k' n' (.slice ua us'.length uc) (M.fixedT (.mk k' n' us')) (wdT (.mk k' n' us')) := hBx
    have hw := hwd d hG.2.1
    have hty : M.Ty.mk k' n' us' = M.tyAt ts d := hG.2.2.1
    rw [← hty] at hw
    have hne : bx ≠ w.heap.size + 2 := by omega
    have c4 : B.cell? ⟨bx, 4, none⟩ = some (.int .i64 (wdT (.mk k' n' us') : Nat)) := by simp [World.cell?, show B.heap[bx]? = _ from hBx]
    have n1 := hI.nx.cell
    have n2 := hI.nx.frozen
    rw [hA1]
    dsimp only [M.Ty.k, M.Ty.n]
    have HN : Hid (nxt (pre ++ [((d, M.Ty.mk k' n' us'), .slice ua us'.length uc)]) = nxt pre + wdT (.mk k' n' us')) := nxt_snoc _ _
    have hmo := hI.mo
    have hpl := hG.1
    have hpl2 := hG.2.1
    generalize hgw : wdT (.mk k' n' us') = wd at *
    have hwr : wrap64 ((nxt pre : Int) + (wd : Nat)) = ((nxt pre + wd : Nat) : Int) := by unfold wrap64; omega
    have hmo2 : nxt pre + wd ≤ 1000000 * (pre.length + 1) := by rw [Nat.mul_add, Nat.mul_one]; exact Nat.add_le_add hmo hw
    have HI := Lib.hid hI
    have HM2 := Lib.hid hmo2
    have HZ := Lib.hid hzA
    have HWR := Lib.hid hwr
    generalize nxt pre = np at *
    clear hgw hwr hmo hmo2 hpl hpl2 hty hw hI hG hzA hA5 hA6 hA7 hA1 hbA hL hV hct hcv ht hwd hul hA3 hA2
    gi_wp2_with fail
    rw [HWR.out]
    have hzA := HZ.out
    have hnx : Boxed (B.setCell ⟨w.heap.size + 1 + 1, 0, none⟩ (.int .i64 ((np + wd : Nat) : Int))) (w.heap.size + 2) 3 (.int .i64 ((np + wd : Nat) : Int)) := HI.out.nx.set _
    refine ⟨(KeepsOthers.setCell _ _ _).from _, fun c hc hT => Below.heap_setCell _ _ _ _ (fun e => hT.1 e), HI.out.gr.set _ _ (.inr rfl), ?_, ?_⟩
    · rw [HN.out]
      exact hnx
    · rw [HN.out, List.length_append]
      exact HM2.out
  case done =>
    rintro D ys W hD hys hI hKd _
    have hnall : nxt ys = M.hdLen ((List.range us.length).map fun i => kdT (M.tyAt ts i)) := by
      unfold nxt
      congr 1
      apply List.ext_getElem?
      intro i
      rw [List.getElem?_map, List.getElem?_map]
      by_cases hi : i < us.length
      · rw [List.getElem?_range hi, List.getElem?_eq_getElem (by rw [hys.1]; exact hi)]
        have := hys.2 i _ (List.getElem?_eq_getElem (by rw [hys.1]; exact hi))
        simp [this]
      · rw [List.getElem?_eq_none (by rw [hys.1]; omega), List.getElem?_eq_none (by simp; omega)]
        rfl
    have hgr := hI.gr
    have hnx := hI.nx
    have hmo := hI.mo
    rw [hys.1] at hmo
    have hWl : W.heap[D]? = some (.deferred (some [])) := hKd
    have hW2 := hA2.ofGr hgr (by omega) (by omega)
    have hW3 : Boxed W (w.heap.size + 1) 36 (.slice au us.length cu) := Boxed.ofGr hgr hA3 (by omega)
    have hbW : Below w.heap.size w W := Gr.low hbA hgr (by omega) (fun b e => by omega)
    have hzW := hgr.size
    rw [← hdE.out] at hnall
    rw [hnall] at hnx
    clear hgr hA2 hA3 hA5 hA6 hA7 hA1 A1 hI hys hbA hKd hnall hmo
    gi_wp2_with fail
    refine wpE_then (n := 6) ?_
    gi_wp2_with fail
    refine wpE_seq ?_
    refine wpE_then (n := 6) ?_
    obtain ⟨W8, hW8⟩ : ∃ W8, (W.alloc (.cells #[.slice none 0 0] 41)).alloc (.cells #[.slice none 0 0] 41) = W8 := ⟨_, rfl⟩
    rw [hW8]
    have hb8 : Below W.heap.size W W8 := by rw [← hW8]; exact two_boxes _ _ _
    have hz8 : W8.heap.size = W.heap.size + 2 := by rw [← hW8]; simp
    have h88 : Boxed W8 W.heap.size 41 (.slice none 0 0) := by rw [← hW8]; exact (Boxed.new W _ _).alloc _
    have h89 : Boxed W8 (W.heap.size + 1) 41 (.slice none 0 0) := by
      rw [← hW8]
      have := Boxed.new (W.alloc (.cells #[.slice none 0 0] 41)) 41 (.slice none 0 0)
      rwa [World.size_alloc] at this
    have h82 := hW2.from_ hb8 (by omega)
    have q0 := h82.c0
    have q1 := h82.c1
    have q2 := h82.c2
    have q3 := Boxed.cell ((hb8.block _ (Boxed.lt hW3)).trans hW3 : Boxed W8 (w.heap.size + 1) 36 (.slice au us.length cu))
    have HZ8 := Lib.hid hz8
    clear hW8 hz8
    gi_wp2_with fail
    refine ⟨trivial, (callsIn_wide.2 (parts_any k n (.slice a ts.length cap) us.length _)).mono ?_⟩
    rintro e w' ⟨rfl, rfl⟩
    gi_wp2_with fail
    clear q0 q1 q2 q3 h82
    have hz8 := HZ8.out
    obtain ⟨E, hE⟩ : ∃ E, ((W8.alloc (.cells #[.int .i64 k, .int .i64 n, .slice a ts.length cap] 32)).alloc (.cells #[.int .i64 us.length] 3)) = E := ⟨_, rfl⟩
    rw [hE]
    have hzE : E.heap.size = W.heap.size + 4 := by rw [← hE]; simp; omega
    have hbE : Below W.heap.size W E := by rw [← hE]; exact hb8.trans ((two_boxes _ _ _).mono (by omega))
    have hE8 : Boxed E W.heap.size 41 (.slice none 0 0) := by rw [← hE]; exact (h88.alloc _).alloc _
    have hE9 : Boxed E (W.heap.size + 1) 41 (.slice none 0 0) := by rw [← hE]; exact (h89.alloc _).alloc _
    have hE6 : BoxT E W8.heap.size k n (.slice a ts.length cap) := by
      rw [← hE]
      exact ⟨by simp [go_sem], by simp [go_sem], by simp [go_sem]⟩
    have hE7 : E.cell? ⟨W8.heap.size + 1, 0, none⟩ = some (.int .i64 us.length) := by rw [← hE]; simp [go_sem]
    clear hE
    have hEn : Boxed E (w.heap.size + 2) 3 (.int .i64 (hd : Nat)) := (hbE.block _ hnx.lt).trans hnx
    have hE3 : Boxed E (w.heap.size + 1) 36 (.slice au us.length cu) := (hbE.block _ (Boxed.lt hW3)).trans hW3
    have hEd : E.heap[D]? = some (.deferred (some [])) := (hbE.block _ (Array.getElem?_eq_some_iff.1 hWl).1).trans hWl
    have hDW : D < W.heap.size := (Array.getElem?_eq_some_iff.1 hWl).1
    have hbEw : Below w.heap.size w E := hbW.trans (hbE.mono hbW.size)
    have hW5 : w.heap.size + 5 ≤ W.heap.size := by omega
    have hz8a : W.heap.size + 2 ≤ W8.heap.size := by omega
    have hz8b : W8.heap.size ≤ W.heap.size + 2 := by omega
    have hzEa : W.heap.size + 4 ≤ E.heap.size := by omega
    have hzEb : E.heap.size ≤ W.heap.size + 4 := by omega
    clear hz8 hzE
    clear hbE hnx hW3 hWl hW2 hbW hzW hb8 h88 h89
    refine wpE_block ?_
    obtain ⟨A2, hA2⟩ : ∃ A2 : Nat → Ep → Act, A2 = fun bx x => { tmps := List.toArray (tv k n (.slice a ts.length cap) :: .slice au us.length cu :: .pointer (some ⟨w.heap.size, 0, none⟩) :: .pointer (some ⟨w.heap.size + 1, 0, none⟩) :: .slice none 0 0 :: .pointer (some ⟨w.heap.size + 1 + 1, 0, none⟩) :: undef :: undef :: .pointer (some ⟨W.heap.size, 0, none⟩) :: .pointer (some ⟨W.heap.size + 1, 0, none⟩) :: .int .i64 (x.1.1 : Nat) :: .pointer (some ⟨bx, 0, none⟩) :: undef :: .agg #[.int .i64 k, .int .i64 n, .slice a ts.length cap] :: .slice au us.length cu :: .int .i64 us.length :: .func (.func 189) #[] #[.pointer (some ⟨w.heap.size + 1 + 1 + 1 + 1, 0, none⟩), .pointer (some ⟨w.heap.size + 1 + 1 + 1, 0, none⟩)] :: undef :: undef :: undef :: undef :: undef :: undef :: .agg #[.int .i64 k, .int .i64 n, .slice a ts.length cap] :: .slice au us.length cu :: .int .i64 us.length :: .func (.func 189) #[] #[.pointer (some ⟨W8.heap.size + 1, 0, none⟩), .pointer (some ⟨W8.heap.size, 0, none⟩)] :: .int .i64 (x.1.1 : Nat) :: pv x.1.2.k x.1.2.n x.2 (M.fixedT x.1.2) (wdT x.1.2) :: undef :: undef :: undef :: undef :: undef :: undef :: undef :: undef :: undef :: undef :: undef :: undef :: undef :: undef :: undef :: undef :: undef :: undef :: undef :: undef :: undef :: undef :: undef :: undef :: undef :: undef :: undef :: undef :: undef :: []), defers := [] } := ⟨_, rfl⟩
    obtain ⟨I, hIe⟩ : ∃ I : List Ep → World → Prop, I = fun pre => RG E (w.heap.size + 2) W.heap.size (W.heap.size + 1) (hd + (M.rowL (M.putVs k ts p 0 (us.take pre.length))).length) (M.rowH hd (M.putVs k ts p 0 (us.take pre.length))) (M.rowL (M.putVs k ts p 0 (us.take pre.length))) := ⟨_, rfl⟩
    have hIo : OwnFrom E.heap.size I := by
      rw [hIe]
      exact fun pre X Y row h hg hr => h.grow hg (by omega) (by omega) (by omega) fun j e => ⟨(hr j e).1, .inr (hr j e).2⟩
    have hI0 : I [] E := by
      rw [hIe]
      exact ⟨Gr.refl _ _, by simpa [M.putVs, M.rowL] using hEn, _, _, hE8, hE9, by simpa [M.putVs, M.rowH] using Ow.nil _ _, by simpa [M.putVs, M.rowL] using Ow.nil _ _, fun g hg => by cases hg⟩
    refine range_lx (n := 6) (gf := 189) (lb := #[.pointer (some ⟨W8.heap.size + 1, 0, none⟩), .pointer (some ⟨W8.heap.size, 0, none⟩)]) (by omega) rfl (enters_of Tryz.func189 (by kernel_rfl) rfl)
      (encs := encP) (fun x => by obtain ⟨⟨d, ⟨k', n', us'⟩⟩, v⟩ := x; rfl) I hIo (fun pre X Y h hg => by rw [hIe] at h ⊢; exact h.grow hg (by omega) (by omega) (by omega) fun j e => by cases e; exact ⟨by omega, .inl (by omega)⟩) (fun ch X => ch = panC 5 ∧ 65536 < L.length ∧ Gr E X (fun b => b = w.heap.size + 2 ∨ b = W.heap.size ∨ b = W.heap.size + 1))
      (fun c => c = E.heap.size + 2) (fun c h => by omega) (AllP ts us.length) (fun pre x => GoodP w ts us.length pre x) ?seq2 hI0 (RGx E w ts us.length I A2) (fun pre x a' => RGx_own hIo pre x a') ?assign2 ?body2 ?done2 ?pan2
    case seq2 =>
      intro l J Jp X hzX hJI hJ hY h0
      have hJR : ∀ pre Y, J pre Y → Gr E Y (fun b => b = w.heap.size + 2 ∨ b = W.heap.size ∨ b = W.heap.size + 1) := fun pre Y h => by
        have := hJI pre Y h
        rw [hIe] at this
        exact this.gr
      have HT : PartH w ts us.length (fun c => c = E.heap.size + 2) (E.heap.size + 2) l W8.heap.size (W8.heap.size + 1) k n (.slice a ts.length cap) J Jp :=
        ⟨hJ, fun pre Y h => Gr.low hbEw (hJR pre Y h) (by omega) (fun b e => by omega), fun pre Y h => hE6.ofGr (hJR pre Y h) (by omega) (by omega), fun pre Y h => ((hJR pre Y h).cell (p := ⟨W8.heap.size + 1, 0, none⟩) (by simp; omega) (by simp; omega)).trans hE7, rfl, hY⟩
      exact parts_seq w ts us.length _ _ l _ _ k n a cap J Jp HT _ hL hct (by omega) ht (by omega) X hzX h0
    case assign2 =>
      rintro l pre ⟨⟨d, ⟨k', n', us'⟩⟩, v⟩ X K hI hz hG hK'
      obtain ⟨ua, uc, hu, _, _⟩ := hG.2.2.2.slice
      replace hu : v = .slice ua us'.length uc := hu
      subst hu
      dsimp only [encP]
      have hAX : RGx E w ts us.length I A2 pre ((d, .mk k' n' us'), .slice ua us'.length uc) (A2 X.heap.size ((d, .mk k' n' us'), .slice ua us'.length uc)) (X.alloc (.cells #[.int .i64 k', .int .i64 n', .slice ua us'.length uc, .bool (M.fixedT (.mk k' n' us')), .int .i64 (wdT (.mk k' n' us') : Nat)] 181)) :=
        ⟨X.heap.size, k', n', us', rfl, hG, rfl, hIo pre _ _ none hI (World.grownBy_alloc _ _ _) (fun r e => by cases e), World.alloc_heap_new X _, hz, by simp⟩
      rw [hA2] at hAX
      gi_wp2
      refine hK' _ _ ((KeepsOthers.alloc X _).from _) (fun c hc _ => Below.heap_alloc _ _ _ (by omega)) ?_
      rw [hA2]
      exact hAX
    case body2 =>
      rintro l pre ⟨⟨d, ⟨k', n', us'⟩⟩, v⟩ a' B ⟨bx, k2, n2, us2, hx, hG, rfl, hI, hBx, h4, h5⟩
      cases hx
      obtain ⟨ua, uc, hu, _, _⟩ := hG.2.2.2.slice
      replace hu : v = .slice ua us'.length uc := hu
      subst hu
      replace hBx : PBox B bx k' n' (.slice ua us'.length uc) (M.fixedT (.mk k' n' us')) (wdT (.mk k' n' us')) := hBx
      have hlt : d < us.length := hG.2.1
      have hty : M.Ty.mk k' n' us' = M.tyAt ts d := hG.2.2.1
      have hLt : LayT w w.heap.size us' (.slice ua us'.length uc) := hG.2.2.2
      have hdl : d = pre.length := hG.1
      obtain ⟨b, o, N, bs, vs, q, ab, cb, av, cv, rfl, hbn, hxk, h7, hVl⟩ := hV.at_ hlt
      rw [hIe] at hI
      rw [← hdl] at hI
      obtain ⟨e, he⟩ := hchk.out d hlt
      rw [← hty] at he
      have hmem : M.Ty.mk k' n' us' ∈ ts := by
        rw [hty]
        unfold M.tyAt
        have h1 := ht (by omega)
        rw [List.getElem?_eq_getElem (by omega)]
        exact List.getElem_mem _
      have hcT := M.cntT_part hmem
      have hcV := M.cntV_part (List.mem_of_getElem? hxk)
      have hsx := size_va hxk
      rw [M.Va.mk.sizeOf_spec] at hsx
      have hnext := M.putVs_next k ts p hxk
      rw [hin.out d hlt, ← hty] at hnext
      have hfx := M.fitVs_at k ts p us 0 d _ hfit.out hxk
      rw [Nat.zero_add, hin.out d hlt, ← hty] at hfx
      have hbB : Below w.heap.size w B := Gr.low hbEw hI.gr (by omega) (fun b e => by omega)
      have hzB := hI.gr.size
      have hsl := hLp.out d _ hxk
      rw [← hty] at hsl
      have HC : Hid (∀ X, Below B.heap.size B X → Calls Tryz.prog 144 #[tv k' n' (.slice ua us'.length uc), vv N (.slice ab bs.length cb) (.slice av vs.length cv) q] X (PutP X (M.putV (.mk k' n' us') (.mk N bs vs q)))) := fun X h =>
        ih.out k' n' us' ua uc N bs vs q ab cb av cv X (by omega) ((hLt.from_ (hbB.trans (h.mono hbB.size))).mono (hbB.trans (h.mono hbB.size)).size) ((hVl.from_ (hbB.trans (h.mono hbB.size))).mono (hbB.trans (h.mono hbB.size)).size) ⟨e, he⟩ hfx (by omega) (by omega)
      have hkd : M.kindOf (.mk k' n' us') = if M.fixedT (.mk k' n' us') = true then some (M.sizeT (.mk k' n' us')) else none := by
        rw [← kdT_chk (M.chkT_mono _ _ 0 he (Nat.zero_le _))]; rfl
      have hm1 := hLm.out d (by omega)
      have hm2 := hLm.out (d + 1) (by omega)
      have hh1 := hLh.out d (by omega)
      have hh2 := hLh.out (d + 1) (by omega)
      rw [hnext, hkd] at hm2 hh2
      have hnx2 : Hid (M.putVs k ts p 0 (us.take (d + 1)) = M.putVs k ts p 0 (us.take d) ++ [(if M.fixedT (.mk k' n' us') = true then some (M.sizeT (.mk k' n' us')) else none, M.putV (.mk k' n' us') (.mk N bs vs q))]) := by show _ = _; rw [hnext, hkd]
      clear hnext hkd hfx he hmem hcT hcV hsx hVl hLt hty hG ih hchk hfit hLp
      generalize M.putV (.mk k' n' us') (.mk N bs vs q) = s at *
      generalize M.sizeT (.mk k' n' us') = sz at *
      generalize wdT (.mk k' n' us') = wd at *
      generalize M.fixedT (.mk k' n' us') = f at *
      generalize M.putVs k ts p 0 (us.take d) = ps at *
      obtain ⟨l1, hl1⟩ : ∃ l1, M.rowH hd ps = l1 := ⟨_, rfl⟩
      obtain ⟨l2, hl2⟩ : ∃ l2, M.rowL ps = l2 := ⟨_, rfl⟩
      rw [hl1, hl2] at hI
      rw [hl1] at hh1
      rw [hl2] at hm1
      obtain ⟨m, hm⟩ : ∃ m, hd + l2.length = m := ⟨_, rfl⟩
      rw [hm] at hI hm1
      have h7B := h7.from_ hbB hbn
      have hB3 : Boxed B (w.heap.size + 1) 36 (.slice (some ⟨b, o, none⟩) us.length cu) := Boxed.ofGr hI.gr hE3 (by omega)
      have HI := Lib.hid hI
      have HH7 := Lib.hid h7B
      have HB3 := Lib.hid hB3
      have HBX := Lib.hid hBx
      have n1 := hI.nx.cell
      have hd9 : d < 6000 := by omega
      have HDL := Lib.hid hdl
      have HL1 := Lib.hid hl1
      have HL2 := Lib.hid hl2
      have HM := Lib.hid hm
      clear hI h7 h7B hB3 hBx hxk hbn hV hL hIo hI0 hE8 hE9 hE6 hE7 hEn hE3 hEd hdl hl1 hl2 hm hwd hct hcv ht hs hul
      have mixed : Tryz.prog.follows .mixedOrders = true := by kernel_rfl
      rw [hA2]
      dsimp only [M.Ty.k, M.Ty.n]
      by_cases hml : m ≤ 65536
      · have hml' : (m : Int) ≤ 65536 := by omega
        have HNE := Lib.hid (need_any true 5)
        clear hA2 hbB
        gi_wp2_with fail
        refine ⟨trivial, CallsIn.inRound l ((callsIn_wide.2 (HNE.out B)).mono ?_)⟩
        rintro e X ⟨rfl, hX⟩
        obtain rfl : B = X := hX.symm
        have hBX := HBX.out
        have p0 : B.cell? ⟨bx, 0, none⟩ = some (.int .i64 k') := by simp [World.cell?, show B.heap[bx]? = _ from hBX]
        have p1 : B.cell? ⟨bx, 1, none⟩ = some (.int .i64 n') := by simp [World.cell?, show B.heap[bx]? = _ from hBX]
        have p2 : B.cell? ⟨bx, 2, none⟩ = some (.slice ua us'.length uc) := by simp [World.cell?, show B.heap[bx]? = _ from hBX]
        have p4 := HB3.out.cell
        have hbl := World.block_lt_of_cell? _ _ HH7.out.c0
        have hw1 := Boxed.lt HB3.out
        clear hBX
        gi_wp2_with fail
        refine region_roundH (S := fun Y => Below B.heap.size B Y) (by rintro ⟨_, _, h⟩; exact h) mixed (by kernel_rfl) ?_
        have hS0 : (fun Y => Below B.heap.size B Y) B.drew := Below.drew (Below.refl _ _)
        rw [show Array.replicate (Array.size _) false = #[false, false, false, false, false, false, false, false] from rfl, show Array.size (α := Oper) _ = 8 from rfl]
        refine wpAnyH_take (i := 0) (v := .pointer (some ⟨bx, 0, none⟩)) rfl (by kernel_rfl) (by kernel_rfl) (by kernel_rfl) (fun _ _ _ h => h) (Or.inl ⟨by rfl, ?_⟩) hS0 ?_
        · intro Y hY
          skip
          go_simp
        simp only [Act.put, List.getElem_toArray, List.getElem_cons_zero, List.setIfInBounds_toArray, List.set_cons_zero, List.set_cons_succ]
        refine wpAnyH_take (i := 1) (v := tv k' n' (.slice ua us'.length uc)) rfl (by kernel_rfl) (by kernel_rfl) (by kernel_rfl) (fun _ _ _ h => h) (Or.inl ⟨by rfl, ?_⟩) hS0 ?_
        · intro Y hY
          have c0 := (hY.cell (p := ⟨bx, 0, none⟩) h5).trans p0; have c1 := (hY.cell (p := ⟨bx, 1, none⟩) h5).trans p1; have c2 := (hY.cell (p := ⟨bx, 2, none⟩) h5).trans p2
          go_simp
        simp only [Act.put, List.getElem_toArray, List.getElem_cons_succ, List.getElem_cons_zero, List.setIfInBounds_toArray, List.set_cons_zero, List.set_cons_succ]
        refine wpAnyH_take (i := 2) (v := .slice (some ⟨b, o, none⟩) us.length cu) rfl (by kernel_rfl) (by kernel_rfl) (by kernel_rfl) (fun _ _ _ h => h) (Or.inl ⟨by rfl, ?_⟩) hS0 ?_
        · intro Y hY
          have c4 := (hY.cell (p := ⟨w.heap.size + 1, 0, none⟩) hw1).trans p4
          go_simp
        simp only [Act.put, List.getElem_toArray, List.getElem_cons_succ, List.getElem_cons_zero, List.setIfInBounds_toArray, List.set_cons_zero, List.set_cons_succ]
        refine wpAnyH_take (i := 3) (v := .int .i64 d) rfl (by kernel_rfl) (by kernel_rfl) (by kernel_rfl) (fun _ _ _ h => h) (Or.inl ⟨by rfl, ?_⟩) hS0 ?_
        · intro Y hY
          skip
          go_simp
        simp only [Act.put, List.getElem_toArray, List.getElem_cons_succ, List.getElem_cons_zero, List.setIfInBounds_toArray, List.set_cons_zero, List.set_cons_succ]
        refine wpAnyH_take (i := 4) (v := .pointer (some ⟨b, o + d * 7, none⟩)) rfl (by kernel_rfl) (by kernel_rfl) (by kernel_rfl) (fun _ _ _ h => h) (Or.inl ⟨by rfl, ?_⟩) hS0 ?_
        · intro Y hY
          skip
          go_simp
        simp only [Act.put, List.getElem_toArray, List.getElem_cons_succ, List.getElem_cons_zero, List.setIfInBounds_toArray, List.set_cons_zero, List.set_cons_succ]
        refine wpAnyH_take (i := 5) (v := vv N (.slice ab bs.length cb) (.slice av vs.length cv) q) rfl (by kernel_rfl) (by kernel_rfl) (by kernel_rfl) (fun _ _ _ h => h) (Or.inl ⟨by rfl, ?_⟩) hS0 ?_
        · intro Y hY
          have h7Y := HH7.out.from_ hY hbl; have e0 := h7Y.c0; have e1 := h7Y.c1; have e2 := h7Y.c2; have e3 := h7Y.c3; have e4 := h7Y.c4; have e5 := h7Y.c5; have e6 := h7Y.c6
          go_simp
        simp only [Act.put, List.getElem_toArray, List.getElem_cons_succ, List.getElem_cons_zero, List.setIfInBounds_toArray, List.set_cons_zero, List.set_cons_succ]
        refine wpAnyH_ready (rs := [6]) (by kernel_rfl) (by simp) ?_
        refine AllReadyH.cons rfl (fun K hK => ?_) AllReadyH.nil
        go_simp
        refine (HC.out _ hS0).mono ?_
        rintro e w2 ⟨hok, hno, hb2'⟩
        have hb2 : Below B.heap.size B w2 := (Below.refl B.heap.size B).drew.trans hb2'
        have hI2 := HI.out.below hb2 (by omega) (by omega) (by omega)
        by_cases hsl' : s.length ≤ 65536
        · obtain ⟨u, rfl, hSr0⟩ := hok hsl'
          have hSr : SrB B.heap.size s u w2 := hSr0
          clear hok hno hb2' hSr0
          try go_wp2_with fail
          refine hK.out _ _ hb2 (fun _ => ?_)
          clear hK K
          simp only [List.setIfInBounds_toArray, List.set_cons_zero, List.set_cons_succ]
          refine wpAnyH_take (i := 7) (v := u) rfl (by kernel_rfl) (by kernel_rfl) (by kernel_rfl) (fun _ _ _ h => h) (Or.inl ⟨by rfl, ?_⟩) hb2 ?_
          · intro Y hY
            go_simp
          simp only [Act.put, List.getElem_toArray, List.getElem_cons_succ, List.getElem_cons_zero, List.setIfInBounds_toArray, List.set_cons_zero, List.set_cons_succ]
          refine wpAnyH_done (by kernel_rfl) ?_ _
          have p3 : w2.cell? ⟨bx, 3, none⟩ = some (.bool f) := (hb2.cell (p := ⟨bx, 3, none⟩) h5).trans (by simp [World.cell?, show B.heap[bx]? = _ from HBX.out])
          clear p0 p1 p2 p4 hS0
          have hzB2 := hb2.size
          have HC2 := HC
          clear HC HC2 HNE n1
          obtain ⟨ux, uy, rfl⟩ := hSr.slice
          obtain ⟨v1, v2, G1, G2, G3, G4, G5⟩ := HI.out.v
          have g1 : Boxed w2 W.heap.size 41 v1 := (hb2.block _ G1.lt).trans G1
          have g2 : Boxed w2 (W.heap.size + 1) 41 v2 := (hb2.block _ G2.lt).trans G2
          have g3 := G3.from_ hb2
          have g4 := G4.from_ hb2
          have hv1B := G3.lt
          have hv2B := G4.lt
          have hpl : (pre ++ [((d, M.Ty.mk k' n' us'), Value.slice ua us'.length uc)]).length = d + 1 := by rw [List.length_append, HDL.out]; rfl
          have HPL := Lib.hid hpl
          clear G1 G2 G3 G4 hpl
          have h3 := hnx2.out
          cases f with
          | true =>
            rw [if_pos rfl] at h3
            have HNX := Lib.hid h3
            have y1 := g1.cell
            clear hm2 hh2 h3 hnx2
            gi_wp2_with (refine wpListIn_append_by _ rfl _ _ rfl (E.heap.size + 3) l1 s _ _ rfl rfl g3 hSr.sr (by omega) (by omega) ?_; intro v' w3 hA3; obtain ⟨va', vc', hv'⟩ := hA3.own.len; subst hv'; have hRG := RG.first hI2.gr hI2.nx g1 g2 g3 g4 G5 (by omega) (by omega) (by omega) (by omega) (by omega) hA3; have y3 := Boxed.cell hRG.2.1; have y4 := Boxed.frozen hRG.2.1)
            refine ⟨((KO_below hb2).trans ((KO_app hA3 g3).trans (KeepsOthers.setCell _ _ _))).from _, fun c hc hT => ?_, ?_⟩
            · subst hT
              have := (hRG.2.2 (E.heap.size + 2) (by omega) (by omega)).resolve_right (by omega)
              rw [List.length_append] at this
              exact this.trans (hb2.block _ hc)
            · rw [hIe]
              show RG _ _ _ _ _ _ _ _
              rw [HPL.out, HNX.out, M.rowH_fix, M.rowL_fix, HL1.out, HL2.out, HM.out]
              have := hRG.1
              rw [List.length_append] at this
              exact this
          | false =>
            rw [if_neg (by decide)] at h3 hm2 hh2
            have HNX := Lib.hid h3
            have hlen2 : m + s.length ≤ L.length := by rw [M.rowL_off, List.length_append, HL2.out] at hm2; have := HM.out; omega
            have HOF := Lib.hid (fun X => offset_any m (Nat.lt_of_le_of_lt hml (by decide)) X)
            have hle4 : (M.le 4 m).length = 4 := M.le_length 4 m
            clear hm2 hh2 h3 hnx2
            have y1 := g1.cell
            have y2 := hI2.nx.cell
            gi_wp2_with fail
            refine region_roundH (S := fun Y => Y.cell? ⟨w.heap.size + 2, 0, none⟩ = some (.int .i64 (m : Nat))) (by rintro ⟨_, _, h⟩; exact h) mixed (by kernel_rfl) ?_
            have hS0 : (fun Y : World => Y.cell? ⟨w.heap.size + 2, 0, none⟩ = some (.int .i64 (m : Nat))) w2.drew := y2
            rw [show Array.replicate (Array.size _) false = #[false, false, false, false, false] from rfl, show Array.size (α := Oper) _ = 5 from rfl]
            refine wpAnyH_take (i := 1) (v := .int .i64 (m : Nat)) rfl (by kernel_rfl) (by kernel_rfl) (by kernel_rfl) (fun _ _ _ h => h) (Or.inl ⟨by rfl, ?_⟩) hS0 ?_
            · intro Y hY
              go_simp
            simp only [Act.put, List.getElem_toArray, List.getElem_cons_succ, List.getElem_cons_zero, List.setIfInBounds_toArray, List.set_cons_zero, List.set_cons_succ]
            refine wpAnyH_ready (rs := [0, 2]) (by kernel_rfl) (by simp) ?_
            refine AllReadyH.cons rfl (fun K hK => ?rA) (AllReadyH.cons rfl (fun K hK => ?rB) AllReadyH.nil)
            case' rA =>
              go_simp
              refine hK.out _ _ hS0 (fun _ => ?_)
              clear hK K
              simp only [List.setIfInBounds_toArray, List.set_cons_zero]
              refine wpAnyH_ready (rs := [2]) (by kernel_rfl) (by simp) ?_
              refine AllReadyH.cons rfl (fun K hK => ?_) AllReadyH.nil
              go_simp
              refine (HOF.out _).mono ?_
              rintro e w4 ⟨⟨u, rfl, hU⟩, hb4⟩
              have hS4 : w4.cell? ⟨w.heap.size + 2, 0, none⟩ = some (.int .i64 (m : Nat)) := (hb4.cell (p := ⟨w.heap.size + 2, 0, none⟩) hI2.nx.lt).trans hS0
              try go_wp2_with fail
              refine hK.out _ _ hS4 (fun _ => ?_)
              clear hK K
              simp only [List.setIfInBounds_toArray, List.set_cons_zero, List.set_cons_succ]
              skip
            case' rB =>
              go_simp
              refine (HOF.out _).mono ?_
              rintro e w4 ⟨⟨u, rfl, hU⟩, hb4⟩
              have hS4 : w4.cell? ⟨w.heap.size + 2, 0, none⟩ = some (.int .i64 (m : Nat)) := (hb4.cell (p := ⟨w.heap.size + 2, 0, none⟩) hI2.nx.lt).trans hS0
              try go_wp2_with fail
              refine hK.out _ _ hS4 (fun _ => ?_)
              clear hK K
              have y3 : w4.cell? ⟨W.heap.size, 0, none⟩ = some v1 := (hb4.cell (p := ⟨W.heap.size, 0, none⟩) g1.lt).trans y1
              simp only [List.setIfInBounds_toArray, List.set_cons_zero, List.set_cons_succ]
              refine wpAnyH_ready (rs := [0]) (by kernel_rfl) (by simp) ?_
              refine AllReadyH.cons rfl (fun K hK => ?_) AllReadyH.nil
              go_simp
              refine hK.out _ _ hS4 (fun _ => ?_)
              clear hK K y3
              simp only [List.setIfInBounds_toArray, List.set_cons_zero]
              skip
            all_goals
              have hb4' : Below w2.heap.size w2 w4 := (Below.refl _ _).drew.trans hb4
              have hz4 := hb4'.size
              have hI4 := hI2.below hb4' (by omega) (by omega) (by omega)
              have g1' : Boxed w4 W.heap.size 41 v1 := (hb4'.block _ g1.lt).trans g1
              have g2' : Boxed w4 (W.heap.size + 1) 41 v2 := (hb4'.block _ g2.lt).trans g2
              have g3' := g3.from_ hb4'
              have g4' := g4.from_ hb4'
              have hSr4 := hSr.from_ hb4'
              have hl6 : l1.length + (M.le 4 m).length ≤ 140737488355328 := by omega
              obtain ⟨l3, hl3⟩ : ∃ l3, l1 ++ M.le 4 m = l3 := ⟨_, rfl⟩
              clear y1 y2 hS0
              refine wpAnyH_ready (rs := [3]) (by kernel_rfl) (by simp) ?_
              refine AllReadyH.cons rfl (fun K hK => ?_) AllReadyH.nil
              rw [if_pos (by rfl)]
              refine wp_append_by _ _ _ rfl (E.heap.size + 3) l1 (M.le 4 m) v1 u rfl rfl g3' hU.sr hl6 (by omega) ?_
              intro v' w5 hA5
              rw [hl3] at hA5
              have HL3 := Lib.hid hl3
              clear hl3
              obtain ⟨va', vc', hv'⟩ := hA5.own.len
              subst hv'
              have hRG := RG.first hI4.gr hI4.nx g1' g2' g3' g4' G5 (by omega) (by omega) (by omega) (by omega) (by omega) hA5
              have hS5 : w5.cell? ⟨w.heap.size + 2, 0, none⟩ = some (.int .i64 (m : Nat)) := (hI4.nx.kept hA5.grown (fun e => by have := hv1B _ e.symm; omega)).cell
              have y3 := Boxed.cell hRG.2.1
              have y4 := Boxed.frozen hRG.2.1
              refine hK.out _ _ hS5 (fun _ => ?_)
              clear hK K
              simp only [Act.put, List.getElem_toArray, List.getElem_cons_succ, List.getElem_cons_zero, List.setIfInBounds_toArray, List.set_cons_zero, List.set_cons_succ]
              refine wpAnyH_ready (rs := [4]) (by kernel_rfl) (by simp) ?_
              refine AllReadyH.cons rfl (fun K hK => ?_) AllReadyH.nil
              go_simp
              have hS6 : (w5.setCell ⟨W.heap.size, 0, none⟩ (.slice va' l3.length vc')).cell? ⟨w.heap.size + 2, 0, none⟩ = some (.int .i64 (m : Nat)) := hRG.1.nx.cell
              refine hK.out _ _ hS6 (fun _ => ?_)
              clear hK K
              simp only [List.setIfInBounds_toArray, List.set_cons_zero, List.set_cons_succ]
              refine wpAnyH_done (by kernel_rfl) ?_ _
              obtain ⟨v3, v4, q1, q2, q3, q4, q5⟩ := hRG.1.v
              have hSr6 : SrB B.heap.size s (.slice ux s.length uy) (w5.setCell ⟨W.heap.size, 0, none⟩ (.slice va' l3.length vc')) := (hSr4.grown hA5.grown (fun g e => (hv1B g e).2)).grown (grownBy_setCell' w5 W.heap.size _) (fun g e => by cases e; have := g1.lt; have := hI2.gr.size; omega)
              have hsz6 := (grownBy_setCell' w5 W.heap.size (.slice va' l3.length vc')).size
              have hsz5 := hA5.grown.size
              have hl9 : l2.length + s.length ≤ 140737488355328 := by have := HM.out; omega
              have hB6 : E.heap.size + 3 ≤ (w5.setCell ⟨W.heap.size, 0, none⟩ (.slice va' l3.length vc')).heap.size := by have := hI2.gr.size; have := hI4.gr.size; have := hRG.1.gr.size; omega
              obtain ⟨l4, hl4⟩ : ∃ l4, l2 ++ s = l4 := ⟨_, rfl⟩
              have HL4 := Lib.hid hl4
              clear hl4
              have y5 := q2.cell
              have hms : (m : Int) + s.length ≤ 131072 := by omega
              clear y3 y4 hS4 hS5 hS6
              gi_wp2_with (refine wpListIn_append_by _ rfl _ _ rfl (E.heap.size + 3) l2 s _ _ rfl rfl q4 hSr6.sr hl9 hB6 ?_; intro v'' w7 hA7; rw [HL4.out] at hA7; obtain ⟨va'', vc'', hv''⟩ := hA7.own.len; subst hv''; have hRG2 := RG.then_ hRG.1.gr hRG.1.nx q1 q2 q3 q4 q5 (by omega) (by omega) (by omega) (by omega) (by omega) hA7; have z3 := Boxed.cell hRG2.2.1; have z4 := Boxed.frozen hRG2.2.1; have hN7 : Boxed w7 (w.heap.size + 2) 3 (.int .i64 (m : Nat)) := hRG.1.nx.kept hA7.grown (fun e => by have := (q4.lt _ e.symm).1; omega); have z5 := hN7.cell; have z6 := hN7.frozen)
              have hR3 := hRG2.1.next (m' := m + s.length) (by omega) (by omega) (by omega)
              have hs7 := hA7.grown.size
              have hs8 := (grownBy_setCell' w7 (W.heap.size + 1) (.slice va'' l4.length vc'')).size
              refine ⟨((KO_below hb2).trans ((KO_below hb4').trans ((KO_app hA5 g3').trans ((KeepsOthers.setCell _ _ _).trans ((KO_app hA7 q4).trans ((KeepsOthers.setCell _ _ _).trans (KeepsOthers.setCell _ _ _))))))).from _, fun c hc hT => ?_, ?_⟩
              · subst hT
                have e1 := (hRG2.2.2 (E.heap.size + 2) (by omega) (by omega)).resolve_right (by omega)
                have e2 := (hRG.2.2 (E.heap.size + 2) (by omega) (by omega)).resolve_right (by omega)
                refine (Below.heap_setCell _ _ _ _ (by show _ ≠ _; simp only; omega)).trans (e1.trans (e2.trans ((hb4'.block _ (by omega)).trans (hb2.block _ hc))))
              · rw [hIe]
                show RG _ _ _ _ _ _ _ _
                rw [HPL.out, HNX.out, M.rowH_off, M.rowL_off, HL1.out, HL2.out, HM.out, HL3.out, HL4.out, show hd + l4.length = m + s.length by rw [← HL4.out, List.length_append]; have := HM.out; omega]
                exact hR3
        · rw [hno (by omega)]
          exact ⟨rfl, (KO_below hb2).from _, rfl, by omega, hI2.gr⟩
      · have hml' : ¬ (m : Int) ≤ 65536 := by omega
        have HNE := Lib.hid (need_any false 5)
        have hlong : 65536 < L.length := by omega
        have HGR := Lib.hid HI.out.gr
        clear hA2 hbB hm2 hh2 hnx2
        gi_wp2_with fail
        refine ⟨trivial, CallsIn.inRound l ((callsIn_wide.2 (HNE.out B)).mono ?_)⟩
        rintro e X ⟨rfl, hX⟩
        obtain rfl : B = X := hX.symm
        exact ⟨rfl, KeepsFrom.refl _ _, rfl, hlong, HGR.out⟩
    case done2 =>
      rintro D2 ys2 X hD2 hys2 hI2 hKd2 _
      rw [hIe] at hI2
      obtain ⟨v1, v2, g1, g2, g3, g4, g5⟩ := hI2.v
      rw [hys2.1, List.take_length] at g3 g4
      have hgr2 := hI2.gr
      have hbX : Below w.heap.size w X := Gr.low hbEw hgr2 (by omega) (fun b e => by omega)
      have hXd : X.heap[D]? = some (.deferred (some [])) := (hgr2.block D (by omega) (by omega)).trans hEd
      have hzX := hgr2.size
      have hl1 := hLh.out us.length (Nat.le_refl _)
      have hl2 := hLm.out us.length (Nat.le_refl _)
      rw [List.take_length] at hl1 hl2
      have hapx := hLE.out
      generalize M.rowH hd (M.putVs k ts p 0 us) = l1 at *
      generalize M.rowL (M.putVs k ts p 0 us) = l2 at *
      have y1 := g1.cell
      have y2 := g2.cell
      have hDD : D2 ≠ D := by omega
      have HAP := Lib.hid hapx
      clear hapx hI2 hIo hI0 hE8 hE9 hE6 hE7 hEn hE3 hA2 A2 hIe hgr2 hEd hL hV hct hcv ht hs hwd hul hys2 hbEw
      gi_wp2_with fail
      refine wpE_then (n := 6) ?_
      gi_wp2_with (refine wpListIn_append_by _ rfl _ _ rfl E.heap.size l1 l2 _ _ rfl rfl (g3.mono (by omega)) g4.sr (by omega) (by omega) ?_; intro v' X1 hA1)
      have hX1l := (hA1.grown.block D2 (Array.getElem?_eq_some_iff.1 hKd2).1 (fun e => by
        rcases g3.2 with ⟨rfl, _⟩ | ⟨g', cap', cur', rfl, _, hg', _⟩
        · cases e
        · cases e; rw [hg'] at hKd2; cases hKd2)).trans hKd2
      have hX1d := (hA1.grown.block D (Array.getElem?_eq_some_iff.1 hXd).1 (fun e => by
        rcases g3.2 with ⟨rfl, _⟩ | ⟨g', cap', cur', rfl, _, hg', _⟩
        · cases e
        · cases e; rw [hg'] at hXd; cases hXd)).trans hXd
      have hX1d2 : (X1.putObj D2 (.deferred none)).heap[D]? = some (.deferred (some [])) := (World.putObj_heap_other (Ne.symm hDD)).trans hX1d
      have hS1 : SrB w.heap.size (l1 ++ l2) v' X1 := hA1.own.srB.mono (by omega)
      have hbX1 : Below w.heap.size w X1 := hbX.grown hA1.grown (by omega) (fun k e => by have := (g3.lt k e).1; omega)
      refine WpE.of (n := 6) (wpIn_ret ?_)
      refine ⟨by simp, .inl ⟨_, _, rfl, run_takeDeferred hX1l, ?_⟩⟩
      refine ⟨by simp, .inl ⟨_, _, rfl, run_takeDeferred hX1d2, ?_⟩⟩
      have hb1 := belowK_b (w := w) (Nat.le_refl _) X1 D2 _ (.deferred none) (by omega) hX1l rfl rfl
      have hb2 := belowK_b (w := w) (Nat.le_refl _) (X1.putObj D2 (.deferred none)) D _ (.deferred none) (by omega) hX1d2 rfl rfl
      have hS2 := (hS1.put hX1l rfl (.deferred none)).put hX1d2 rfl (.deferred none)
      rw [HAP.out] at hS2
      refine ⟨v', ?_, .inl ⟨v', rfl, hS2⟩, hbX1.trans (hb1.trans hb2)⟩
      simp [results, Tryz.f177, go_sem]
    case pan2 =>
      rintro D2 ch X hD2 ⟨rfl, hlong, hgr2⟩ hKd2
      have hbX : Below w.heap.size w X := Gr.low hbEw hgr2 (by omega) (fun b e => by omega)
      have hXd : X.heap[D]? = some (.deferred (some [])) := (hgr2.block D (by omega) (by omega)).trans hEd
      have hzX := hgr2.size
      have hDD : D2 ≠ D := by omega
      have hXd2 : (X.putObj D2 (.deferred none)).heap[D]? = some (.deferred (some [])) := (World.putObj_heap_other (Ne.symm hDD)).trans hXd
      refine ⟨by simp, .inl ⟨_, _, rfl, run_takeDeferred hKd2, ?_⟩⟩
      refine ⟨by simp, .inl ⟨_, _, rfl, run_takeDeferred hXd2, ?_⟩⟩
      have hb1 := belowK_b (w := w) (Nat.le_refl _) X D2 _ (.deferred none) (by omega) hKd2 rfl rfl
      have hb2 := belowK_b (w := w) (Nat.le_refl _) (X.putObj D2 (.deferred none)) D _ (.deferred none) (by omega) hXd2 rfl rfl
      exact ⟨.inr ⟨rfl, hlong⟩, hbX.trans (hb1.trans hb2)⟩
  case pan =>
    rintro D ch W hD h
    exact h.elim
end Go.Proofs.YtaajkbclojmbeaaGreatDoor
namespace Go.Proofs.YtaajkbclojmbeaaGreatDoor
open Go

theorem M.fit_putVs (k : Int) (ins : List M.Ty) (p : Int) : ∀ (us : List M.Va) (i : Nat), M.fitVs k ins p i us = 0 → M.inVs us → (∀ j, i ≤ j → j < i + us.length → ∃ e, M.chkT e (M.inT k ins p j) = 0) →
    M.Fit (M.putVs k ins p i us)
  | [], i, _, _, _ => by rw [M.putVs]; intro q hq; cases hq
  | u :: us, i, hf, hi, hc => by
    have hu : M.fitV (M.inT k ins p i) u = 0 := M.fitVs_at k ins p (u :: us) i 0 u hf rfl
    have hr : M.fitVs k ins p (i + 1) us = 0 := by
      rw [M.fitVs, if_neg (by simp [hu])] at hf
      exact hf
    have ih := M.fit_putVs k ins p us (i + 1) hr hi.2 fun j h1 h2 => hc j (by omega) (by rw [List.length_cons]; omega)
    have hg := M.good _ (hc i (Nat.le_refl _) (by rw [List.length_cons]; omega))
    rw [M.putVs]
    intro q hq n hn
    rcases List.mem_cons.1 hq with rfl | hq
    · obtain ⟨h1, h2⟩ := M.kind_some hn
      have := hg.size h1 u hu hi.1
      rw [← h2]
      exact this
    · exact ih q hq n hn
theorem M.in_row {k n : Int} {ts : List M.Ty} (hk : k = 3 ∨ k = 4 ∨ k = 7) {d : Nat} (hc : M.chkT d (.mk k n ts) = 0) {N : Nat} {bs : List Bool} {us : List M.Va} {p : Int} (hf : M.fitV (.mk k n ts) (.mk N bs us p) = 0) :
    ∀ j, j < us.length → M.inT k ts p j = M.tyAt ts j ∧ M.tyAt ts j ∈ ts := by
  intro j hj
  obtain ⟨_, h2, _, h4⟩ := M.chkT_ok.1 hc
  obtain ⟨_, ho, _⟩ := M.fit_parts0 hf
  rcases hk with rfl | rfl | rfl
  · obtain ⟨t, m, rfl, _, _, _⟩ := M.one_of (.inl rfl) h2
    exact ⟨by simp [M.inT, M.tyAt], by simp [M.tyAt]⟩
  · obtain ⟨t, m, rfl, _, _, _⟩ := M.one_of (.inr rfl) h2
    exact ⟨by simp [M.inT, M.tyAt], by simp [M.tyAt]⟩
  · rw [M.ofV_7] at ho
    have hl : us.length = ts.length := by
      simp only [Bool.and_eq_true, beq_iff_eq] at ho
      exact ho.2
    have hm : min j (ts.length - 1) = j := by omega
    have hlt : j < ts.length := by omega
    refine ⟨by simp [M.inT, M.tyAt, hm], ?_⟩
    unfold M.tyAt
    rw [hm, List.getElem?_eq_getElem hlt]
    exact List.getElem_mem _
/-- What putRow asks. -/
structure RowP (k n : Int) (ts : List M.Ty) (us : List M.Va) (p : Int) (L : List UInt8) (hd : Nat) : Prop where
  hin : ∀ j, j < us.length → M.inT k ts p j = M.tyAt ts j
  hchk : ∀ j, j < us.length → ∃ e, M.chkT e (M.tyAt ts j) = 0
  hfit : M.fitVs k ts p 0 us = 0
  hwd : ∀ i, i < us.length → wdT (M.tyAt ts i) ≤ 1000000
  hdE : hd = M.hdLen ((List.range us.length).map fun i => kdT (M.tyAt ts i))
  hLE : M.rowH hd (M.putVs k ts p 0 us) ++ M.rowL (M.putVs k ts p 0 us) = L
  hLm : ∀ j, j ≤ us.length → hd + (M.rowL (M.putVs k ts p 0 (us.take j))).length ≤ L.length
  hLp : ∀ j x, us[j]? = some x → (M.putV (M.tyAt ts j) x).length ≤ L.length
  hLh : ∀ j, j ≤ us.length → (M.rowH hd (M.putVs k ts p 0 (us.take j))).length ≤ 300000
  hL3 : L.length ≤ 300000
theorem rowP {k n : Int} {ts : List M.Ty} (hk : k = 3 ∨ k = 4 ∨ k = 7) {d : Nat} (hc : M.chkT d (.mk k n ts) = 0) {N : Nat} {bs : List Bool} {us : List M.Va} {p : Int} (hf : M.fitV (.mk k n ts) (.mk N bs us p) = 0) (hi : M.inVs us) (hv : M.cntV (.mk N bs us p) ≤ 6000) :
    RowP k n ts us p (M.putV (.mk k n ts) (.mk N bs us p)) (M.hdLen ((List.range us.length).map fun i => kdT (M.tyAt ts i))) := by
  obtain ⟨_, h2, _, h4⟩ := M.chkT_ok.1 hc
  obtain ⟨_, _, hfs⟩ := M.fit_parts0 hf
  have hin := M.in_row hk hc hf
  have hch : ∀ j, j < us.length → ∃ e, M.chkT e (M.tyAt ts j) = 0 := fun j hj => ⟨d + 1, M.chkTs_ok.1 h4 _ (hin j hj).2⟩
  have hFit : M.Fit (M.putVs k ts p 0 us) := M.fit_putVs k ts p us 0 hfs hi fun j _ h => by rw [(hin j (by omega)).1]; exact hch j (by omega)
  have hkd : ∀ j, j < us.length → kdT (M.tyAt ts j) = M.kindOf (M.inT k ts p j) := fun j hj => by
    obtain ⟨e, he⟩ := hch j hj
    rw [(hin j hj).1, kdT_chk (M.chkT_mono _ _ 0 he (Nat.zero_le _))]
  have hmap : ((List.range us.length).map fun i => kdT (M.tyAt ts i)) = (List.range us.length).map fun j => M.kindOf (M.inT k ts p j) := List.map_congr_left fun j hj => hkd j (List.mem_range.1 hj)
  obtain ⟨hd, hhd⟩ : ∃ hd, M.hdLen ((List.range us.length).map fun i => kdT (M.tyAt ts i)) = hd := ⟨_, rfl⟩
  rw [hhd]
  have hE := M.row_eq hk (n := n) N bs us p (off := hd) (by rw [← hmap]; exact hhd)
  have hlen := M.put_len _ (M.chk_small _ _ hc) (.mk N bs us p)
  have hLl : (M.putV (.mk k n ts) (.mk N bs us p)).length = hd + (M.rowL (M.putVs k ts p 0 us)).length := by
    rw [hE, List.length_append, M.rowH_length _ hFit, M.putVs_fst]
    simp only [Nat.zero_add]
    rw [← hmap, hhd]
  have hsp : ∀ j, j ≤ us.length → M.putVs k ts p 0 us = M.putVs k ts p 0 (us.take j) ++ M.putVs k ts p j (us.drop j) := fun j hj => by
    have := M.putVs_append k ts p (us.take j) (us.drop j) 0
    rw [List.take_append_drop, List.length_take_of_le hj, Nat.zero_add] at this
    exact this
  have hLp : ∀ j x, us[j]? = some x → (M.putV (M.tyAt ts j) x).length ≤ (M.putV (.mk k n ts) (.mk N bs us p)).length := fun j x hx => by
    have hj := (List.getElem?_eq_some_iff.1 hx).1
    have hm : (M.kindOf (M.inT k ts p j), M.putV (M.inT k ts p j) x) ∈ M.putVs k ts p 0 us := by
      rw [hsp (j + 1) (by omega), M.putVs_next k ts p hx]
      simp
    have := M.rowH_le hd hm
    rw [← (hin j hj).1, hE, List.length_append]
    exact this
  refine ⟨fun j hj => (hin j hj).1, hch, hfs, fun i hx => ?_, hhd.symm, hE.symm, fun j hj => ?_, hLp, fun j hj => ?_, by omega⟩
  · unfold wdT
    split
    · rename_i hf1
      obtain ⟨e, he⟩ := hch i hx
      have hfx : M.fixT (M.tyAt ts i) = true := by
        rw [M.fixedT, if_pos (M.chkT_mono _ _ 0 he (Nat.zero_le _))] at hf1
        exact hf1
      have hg := (M.good _ ⟨e, he⟩).size hfx us[i] (by
        have := M.fitVs_at k ts p us 0 i us[i] hfs (List.getElem?_eq_getElem hx)
        rwa [Nat.zero_add, (hin i hx).1] at this) (M.inVs_mem hi (List.getElem_mem hx))
      rw [M.sizeT_fix hf1, ← hg]
      have := hLp i us[i] (List.getElem?_eq_getElem hx)
      omega
    · omega
  · rw [hLl, hsp j hj, M.rowL_append, List.length_append]
    omega
  · have h1 : (M.rowH hd (M.putVs k ts p 0 us)).length ≤ (M.putV (.mk k n ts) (.mk N bs us p)).length := by rw [hE, List.length_append]; omega
    rw [hsp j hj, M.rowH_append, List.length_append] at h1
    omega
end Go.Proofs.YtaajkbclojmbeaaGreatDoor
namespace Go.Proofs.YtaajkbclojmbeaaGreatDoor
open Go Go.RowKit

def SPutOk : Prop := ∀ (k n : Int) (ts : List M.Ty) (a : Option Addr) (cap : Nat) (N : Nat) (bs : List Bool) (us : List M.Va) (p : Int) (ab : Option Addr) (cb : Nat) (au : Option Addr) (cu : Nat) (W : World), LayT W W.heap.size ts (.slice a ts.length cap) → Vl W W.heap.size N bs us ab cb au cu → M.cntT (.mk k n ts) ≤ 1000 → M.cntV (.mk N bs us p) ≤ 6000 →
  Calls Tryz.prog 111 #[tv k n (.slice a ts.length cap), vv N (.slice ab bs.length cb) (.slice au us.length cu) p] W fun e w' => e = .returned (.tuple #[.string ⟨(M.putT (.mk k n ts) (.mk N bs us p)).1.toArray⟩, .int .i64 ((M.putT (.mk k n ts) (.mk N bs us p)).2 : Nat)]) ∧ Below W.heap.size W w'
end Go.Proofs.YtaajkbclojmbeaaGreatDoor
namespace Go.Proofs.YtaajkbclojmbeaaGreatDoor
open Go Go.RowKit

theorem M.inVs_of : ∀ {vs : List M.Va}, (∀ v ∈ vs, M.inV v) → M.inVs vs
  | [], _ => trivial
  | v :: vs, h => ⟨h v (by simp), M.inVs_of fun w hw => h w (by simp [hw])⟩
theorem LayV.inVs {w : World} {n : Nat} {vs : List M.Va} {v : Value} (h : LayV w n vs v) : M.inVs vs := by
  induction h with
  | nil_ hm => exact trivial
  | row U V hb hc hm hN c rb r ih =>
    refine M.inVs_of fun x hx => ?_
    obtain ⟨i, hi⟩ := List.mem_iff_getElem?.1 hx
    obtain ⟨N, bs, us, p⟩ := x
    exact ⟨hN i N bs us p hi, ih i N bs us p hi⟩
theorem Vl.inV {w : World} {n N : Nat} {bs : List Bool} {us : List M.Va} {p : Int} {ab : Option Addr} {cb : Nat} {au : Option Addr} {cu : Nat} (h : Vl w n N bs us ab cb au cu) : M.inV (.mk N bs us p) := ⟨h.hN, h.v.inVs⟩
/-- The box of a value. -/
theorem Cells7.third {w : World} (o o' : Obj) (N : Nat) (u v : Value) (p : Int) (t : TypeId) : Cells7 (((w.alloc o).alloc o').alloc (.cells #[.int .u64 (M.pt 0 N), .int .u64 (M.pt 1 N), .int .u64 (M.pt 2 N), .int .u64 (M.pt 3 N), u, v, .int .i64 p] t)) (w.heap.size + 1 + 1) 0 N u v p := by
  have := Cells7.new ((w.alloc o).alloc o') N u v p t
  rwa [World.size_alloc, World.size_alloc] at this
theorem Cells7.second {w : World} (o : Obj) (N : Nat) (u v : Value) (p : Int) (t : TypeId) : Cells7 ((w.alloc o).alloc (.cells #[.int .u64 (M.pt 0 N), .int .u64 (M.pt 1 N), .int .u64 (M.pt 2 N), .int .u64 (M.pt 3 N), u, v, .int .i64 p] t)) (w.heap.size + 1) 0 N u v p := by
  have := Cells7.new (w.alloc o) N u v p t
  rwa [World.size_alloc] at this
end Go.Proofs.YtaajkbclojmbeaaGreatDoor
