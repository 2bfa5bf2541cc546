/- frame.Get. -/
import Derived.Test.YtgeeoefcepjniaaJF8
namespace Go.Proofs.Ytgeeoefcepjniaa
open Go Go.RowKit
attribute [local go_sem] Oper.semAt_some

theorem Fr.set_ {w3 W : World} {E : Nat → Prop} (h : Fr w3 E W) (a : Addr) (u : Value) (ha : E a.block) : Fr w3 E (W.setCell a u) :=
  ⟨h.os, h.tape, h.output, by simpa [World.setCell] using h.size, fun b hb hne => (Below.heap_setCell _ _ _ _ (fun e => hne (by rw [e]; exact ha))).trans (h.block b hb hne)⟩
theorem FrRow.kept {B : Nat} {w W : World} {L : List M.Fr} {v : Value} (h : FrRow B w L v) {row : Option Nat} (hg : w.grownBy W row) (hr : ∀ r, row = some r → ∃ o : Obj, w.heap[r]? = some o ∧ o.isCells = false) : FrRow B W L v :=
  h.grown hg fun g hv e => by
    obtain ⟨o, ho, hc⟩ := hr g e
    exact h.notCells ho hc hv.symm
theorem FrRow.cells {B : Nat} {w : World} {L : List M.Fr} {v : Value} (h : FrRow B w L v) {k : Nat} (hk : v.ownBlock = some k) : ∃ o : Obj, w.heap[k]? = some o ∧ o.isCells = true := by
  rcases h.2 with ⟨h0, _⟩ | ⟨g, cap, cur, hv, hB, hg, _⟩
  · rw [h0] at hk; cases hk
  · rw [hv] at hk; cases hk; exact ⟨_, hg, rfl⟩
theorem FrRow.len {B : Nat} {w : World} {L : List M.Fr} {v : Value} (h : FrRow B w L v) : ∃ a cap, v = .slice a L.length cap := by
  rcases h.2 with ⟨h0, h1⟩ | ⟨g, cap, cur, rfl, hB, hg, h1⟩
  · exact ⟨none, 0, by rw [h0, h1]⟩
  · exact ⟨_, _, rfl⟩
/-- Between two rounds: the row of what has come. -/
def LIf (w3 : World) (bl : Nat) (pre : List Ef) (W : World) : Prop := ∃ v, Boxed W bl 22 v ∧ FrRow w3.heap.size W (pre.map (·.1)) v ∧ Fr w3 (fun b => b = bl) W
theorem LIf_own {w3 : World} {bl : Nat} : OwnFrom w3.heap.size (LIf w3 bl) := fun _pre _W _W' _row ⟨v, hv, hr, hf⟩ hg hrow =>
  ⟨v, boxed_kept hv hg (fun r e => (hrow r e).2), hr.kept hg (fun r e => (hrow r e).2), hf.grown hg (fun r e => (hrow r e).1)⟩
/-- A round has left: the results lie in their boxes. -/
def LXf (w3 : World) (bn be bl : Nat) (x : Ef) (W : World) : Prop := Boxed W bn 22 (.slice none 0 0) ∧ Boxed W be 27 (.int .i64 (x.2 : Nat)) ∧ Fr w3 (fun b => b = bl ∨ b = be ∨ b = bn) W
theorem LXf_own {w3 : World} {bn be bl : Nat} : OwnFrom w3.heap.size (LXf w3 bn be bl) := fun _x _W _W' _row ⟨h1, h2, hf⟩ hg hrow =>
  ⟨boxed_kept h1 hg (fun r e => (hrow r e).2), boxed_kept h2 hg (fun r e => (hrow r e).2), hf.grown hg (fun r e => (hrow r e).1)⟩
/-- The loop's variables are assigned to. -/
def LAf (w3 : World) (bl : Nat) (A1 : Nat → M.Fr → Nat → Act) (pre : List Ef) (x : Ef) (a' : Act) (B : World) : Prop :=
  ∃ (v : Value) (bx : Nat), pre.length ≤ 32 ∧ a' = A1 bx x.1 x.2 ∧ Boxed B bl 22 v ∧ FrRow w3.heap.size B (pre.map (·.1)) v ∧ Fr w3 (fun b => b = bl) B ∧ FrBox B bx x.1 ∧ w3.heap.size ≤ bx ∧ bx < B.heap.size ∧ some bx ≠ v.ownBlock
theorem c4_new (B : World) (f : M.Fr) : ∀ j y, ([f].flatMap c4f)[j]? = some y → (B.alloc (.cells #[.string ⟨f.id.toArray⟩, .int .i64 f.num, .string ⟨f.data.toArray⟩, .bool f.last] 24)).cell? ((⟨B.heap.size, 0, none⟩ : Addr).add j) = some y := by
  intro j y h
  rw [addr_addF]
  match j, h with
  | 0, h => simp [c4f] at h; subst h; simp [go_sem]
  | 1, h => simp [c4f] at h; subst h; simp [go_sem]
  | 2, h => simp [c4f] at h; subst h; simp [go_sem]
  | 3, h => simp [c4f] at h; subst h; simp [go_sem]
  | j + 4, h => simp [c4f] at h
theorem FrBox.kept {W W' : World} {b : Nat} {f : M.Fr} (h : FrBox W b f) {row : Option Nat} (hg : W.grownBy W' row) (hr : ∀ r, row = some r → ∃ o : Obj, W.heap[r]? = some o ∧ o.isCells = false) : FrBox W' b f :=
  ⟨cell_kept h.c0 hg hr, cell_kept h.c1 hg hr, cell_kept h.c2 hg hr, cell_kept h.c3 hg hr⟩
theorem LAf_own {w3 : World} {bl : Nat} {A1 : Nat → M.Fr → Nat → Act} (pre : List Ef) (x : Ef) (a' : Act) : OwnFrom w3.heap.size fun (_ : Unit) B => LAf w3 bl A1 pre x a' B := by
  rintro _ W W' row ⟨v, bx, hp, ha, hv, hr, hf, hb, h1, h2, h3⟩ hg hrow
  have hr' : ∀ r, row = some r → ∃ o : Obj, W.heap[r]? = some o ∧ o.isCells = false := fun r e => (hrow r e).2
  exact ⟨v, bx, hp, ha, boxed_kept hv hg hr', hr.kept hg hr', hf.grown hg (fun r e => (hrow r e).1), hb.kept hg hr', h1, Nat.lt_of_lt_of_le h2 hg.size, h3⟩

theorem FrRow.set_other {B : Nat} {l : List M.Fr} {v : Value} {w : World} (h : FrRow B w l v) (a : Addr) (u : Value) (ha : v.ownBlock ≠ some a.block) : FrRow B (w.setCell a u) l v := by
  refine ⟨h.1, ?_⟩
  rcases h.2 with h0 | ⟨g, cap, cur, hv, hB, hg, h1⟩
  · exact .inl h0
  · exact .inr ⟨g, cap, cur, hv, hB, (Below.heap_setCell _ _ _ _ (fun e => ha (by rw [hv]; exact congrArg some e))).trans hg, h1⟩
set_option maxRecDepth 100000 in
set_option maxHeartbeats 4000000 in
/-- The function's end: the rounds' deferred calls, of which there are none. -/
theorem leave_get (X : World) (n m Dd : Nat) (q : Nat) (tmps : Array Value) (a : Option Addr) (l cap : Nat) (hK : X.heap[Dd]? = some (.deferred (some []))) (hn : n ≠ Dd) (hm : m ≠ Dd)
    (hXn : Boxed X n 22 (.slice a l cap)) (hXe : Boxed X m 27 (.int .i64 (q : Nat)))
    (h2 : tmps.getD 2 undef = .pointer (some ⟨n, 0, none⟩)) (h3 : tmps.getD 3 undef = .pointer (some ⟨m, 0, none⟩)) (R : Ending → World → Prop)
    (hend : ∀ Z : World, Z.os = X.os → Z.tape = X.tape → Z.output = X.output → Z.heap.size = X.heap.size → (∀ b, b ≠ Dd → Z.heap[b]? = X.heap[b]?) → R (.returned (.tuple #[.slice a l cap, .int .i64 (q : Nat)])) Z) :
    LeavesInM Fence.wide 3 Try.prog Try.f16 tmps R [{ target := .collected Dd, args := #[] }] .returning X := by
  refine ⟨by simp, .inl ⟨_, _, rfl, run_takeDeferred hK, ?_⟩⟩
  obtain ⟨Y, hY⟩ : ∃ Y, Y = X.putObj Dd (.deferred none) := ⟨_, rfl⟩
  have hYo : ∀ b, b ≠ Dd → Y.heap[b]? = X.heap[b]? := fun b hb => by rw [hY]; exact World.putObj_heap_other hb
  have hYz : Y.heap.size = X.heap.size := by rw [hY]; simp [World.putObj]
  have ho : Y.os = X.os ∧ Y.tape = X.tape ∧ Y.output = X.output := by rw [hY]; exact ⟨rfl, rfl, rfl⟩
  show LeavesInM _ _ _ _ _ _ _ _ (X.putObj Dd (.deferred none))
  rw [← hY]
  clear hY
  have hcn := (show Boxed Y n 22 (.slice a l cap) from (hYo _ hn).trans hXn).cell
  have hce := (show Boxed Y m 27 (.int .i64 (q : Nat)) from (hYo _ hm).trans hXe).cell
  refine ⟨_, results_cells rfl _ _ _ ⟨n, 0, none⟩ ⟨m, 0, none⟩ (.slice a l cap) (.int .i64 (q : Nat)) h2 h3 ?_ ?_, hend _ ho.1 ho.2.1 ho.2.2 hYz hYo⟩
  · go_simp
  · go_simp

set_option maxRecDepth 100000 in
set_option maxHeartbeats 8000000 in
theorem fget_main (t : List UInt8) (w : World) (hs : t.length ≤ 300000) :
    Calls Try.prog 16 #[.string ⟨((0 : UInt8) :: t).toArray⟩] w fun e w' => ∃ a cap, e = .returned (.tuple #[.slice a (M.getR 32 t).1.length cap, .int .i64 ((M.getR 32 t).2 : Nat)]) ∧ Fs w' w'.heap.size (M.getR 32 t).1 (.slice a (M.getR 32 t).1.length cap) ∧ Below w.heap.size w w' := by
  have hro : Fence.wide.round = none := rfl
  have hmf : ∀ (fn : Fn) (first cap : Array Value) (w : World), (Instr.makeFunc fn first cap).run Try.prog w = .ok (.func fn first cap) w := fun _ _ _ _ => rfl
  have hix : ∀ hk : 0 < (⟨((0 : UInt8) :: t).toArray⟩ : ByteArray).size, (⟨((0 : UInt8) :: t).toArray⟩ : ByteArray)[0]'hk = 0 := idx_at (by rfl)
  have hne : ((⟨((0 : UInt8) :: t).toArray⟩ : ByteArray) == ⟨#[]⟩) = false := by rfl
  refine (callsIn_wide (n := 3)).1 ?_
  refine callsIn_of_wp_marks Try.func16 rfl trivial ?_ rfl
  simp only [Try.ntmps16, List.size_toArray, List.length_cons, List.length_nil, Nat.reduceAdd, Nat.reduceSub, Array.replicate_succ, Array.replicate_zero, List.push_toArray, List.append_toArray, List.nil_append, List.cons_append]
  gi_wp2
  refine ⟨trivial, (frames_in _ ((0 : UInt8) :: t) 1 _).mono ?_⟩
  rintro e w3 ⟨rfl, hw3⟩
  have hz2 : (((w.alloc (.cells #[.slice none 0 0] 22)).alloc (.cells #[.int .i64 0] 27)).alloc (.cells #[.slice none 0 0] 22)).heap.size = w.heap.size + 3 := by simp
  rw [hz2]
  have hb3 : Below w.heap.size w w3 := by rw [hw3]; exact (((((Below.refl _ w).alloc (Nat.le_refl _) _).alloc (by simp) _).alloc (by simp; omega) _).alloc (by simp; omega) _).alloc (by simp; omega) _
  have hz3 : w3.heap.size = w.heap.size + 5 := by rw [hw3]; simp
  have hN3 : Boxed w3 w.heap.size 22 (.slice none 0 0) := by rw [hw3]; exact ((((Boxed.new w _ _).alloc _).alloc _).alloc _).alloc _
  have hE3 : Boxed w3 (w.heap.size + 1) 27 (.int .i64 0) := by
    rw [hw3]
    have := Boxed.new (w.alloc (.cells #[.slice none 0 0] 22)) 27 (.int .i64 0)
    rw [World.size_alloc] at this
    exact ((this.alloc _).alloc _).alloc _
  have hL3 : Boxed w3 (w.heap.size + 2) 22 (.slice none 0 0) := by
    rw [hw3]
    have := Boxed.new ((w.alloc (.cells #[.slice none 0 0] 22)).alloc (.cells #[.int .i64 0] 27)) 22 (.slice none 0 0)
    rw [World.size_alloc, World.size_alloc] at this
    exact (this.alloc _).alloc _
  have hS3 : Boxed w3 (w.heap.size + 3) 9 (.string ⟨((0 : UInt8) :: t).toArray⟩) := by
    rw [hw3]
    have := Boxed.new (((w.alloc (.cells #[.slice none 0 0] 22)).alloc (.cells #[.int .i64 0] 27)).alloc (.cells #[.slice none 0 0] 22)) 9 (.string ⟨((0 : UInt8) :: t).toArray⟩)
    rw [hz2] at this
    exact this.alloc _
  have hA3 : Boxed w3 (w.heap.size + 4) 3 (.int .i64 (1 : Nat)) := by
    rw [hw3]
    have := Boxed.new ((((w.alloc (.cells #[.slice none 0 0] 22)).alloc (.cells #[.int .i64 0] 27)).alloc (.cells #[.slice none 0 0] 22)).alloc (.cells #[.string ⟨((0 : UInt8) :: t).toArray⟩] 9)) 3 (.int .i64 (1 : Nat))
    rw [World.size_alloc, hz2] at this
    exact this
  clear hw3
  gi_wp2
  obtain ⟨A1, hA1⟩ : ∃ A1 : Nat → M.Fr → Nat → Act, A1 = fun bx f e => { tmps := #[.string ⟨((0 : UInt8) :: t).toArray⟩, undef, .pointer (some ⟨w.heap.size, 0, none⟩), .pointer (some ⟨w.heap.size + 1, 0, none⟩), .pointer (some ⟨w.heap.size + 1 + 1, 0, none⟩), .pointer (some ⟨bx, 0, none⟩), .int .i64 (e : Nat), .bool false,
    .string ⟨((0 : UInt8) :: t).toArray⟩, .bool false, .bool false, .string ⟨((0 : UInt8) :: t).toArray⟩, .int .u8 0, .bool false, .string ⟨((0 : UInt8) :: t).toArray⟩,
    .func (.func 28) #[] #[.pointer (some ⟨w.heap.size + 3 + 1, 0, none⟩), .pointer (some ⟨w.heap.size + 3, 0, none⟩)], frv f, .int .i64 (e : Nat), undef, undef, undef, undef, undef, undef, undef, undef], defers := [] } := ⟨_, rfl⟩
  refine range_lv (gf := 28) (lb := #[.pointer (some ⟨w.heap.size + 4, 0, none⟩), .pointer (some ⟨w.heap.size + 3, 0, none⟩)]) (by omega) rfl (enters_of Try.func28 (by kernel_rfl) rfl)
    (encs := encF) (fun x => rfl) (LIf w3 (w.heap.size + 2)) (LIf_own) (LXf w3 w.heap.size (w.heap.size + 1) (w.heap.size + 2)) (LXf_own)
    (fun b => b < w.heap.size + 5 ∧ b ≠ w.heap.size + 2) (fun b hb => by omega) (fun xs => M.getR 32 t = (xs.map (·.1), 0)) (fun x => x.2 ≠ 0 ∧ M.getR 32 t = ([], x.2)) (fun x => x.2 = 0)
    (fun pre x A B => pre.length ≤ 32) ?seq ?zero (LAf w3 (w.heap.size + 2) A1) LAf_own ?assign ?body ?done ?stop
  case seq =>
    intro l J Jx W hzW hTW hJ hY h0
    have tb : ∀ {b t v}, b < w.heap.size + 5 → b ≠ w.heap.size + 2 → Boxed w3 b t v → Boxed W b t v := fun h1 h2 h => (hTW _ ⟨h1, h2⟩).trans h
    exact seq14_in (3 - 1) l ((0 : UInt8) :: t) 1 (w.heap.size + 4) (w.heap.size + 3) (by simp; omega) (by simp) J Jx (fun b => b < w.heap.size + 5 ∧ b ≠ w.heap.size + 2) (by omega) (by omega) W
      ⟨tb (by omega) (by omega) hA3, tb (by omega) (by omega) hS3⟩ hY h0
  case zero => exact ⟨_, hL3, FrRow.nil _ _, ⟨rfl, rfl, rfl, Nat.le_refl _, fun _ _ _ => rfl⟩⟩
  case assign =>
    rintro l pre ⟨f, er⟩ A B K ⟨v, hv, hrow, hf⟩ hg hp hK
    dsimp only [encF]
    have hAB : Below A.heap.size A B := ⟨hg.os, hg.tape, hg.output, hg.size, fun k hk => hg.block k hk (by simp)⟩
    have hAB1 : Below A.heap.size A (B.alloc (.cells #[.string ⟨f.id.toArray⟩, .int .i64 f.num, .string ⟨f.data.toArray⟩, .bool f.last] 24)) := hAB.alloc hg.size _
    have hsA := hf.size
    have hAz := hg.size
    have hAX : LAf w3 (w.heap.size + 2) A1 pre (f, er) (A1 B.heap.size f er) (B.alloc (.cells #[.string ⟨f.id.toArray⟩, .int .i64 f.num, .string ⟨f.data.toArray⟩, .bool f.last] 24)) :=
      ⟨v, B.heap.size, hp, rfl, (hAB1.block _ hv.lt).trans hv, hrow.from_ hAB1, hf.grown (row := none) ⟨hAB1.os, hAB1.tape, hAB1.output, hAB1.size, fun k hk _ => hAB1.block k hk⟩ (fun r e => by cases e),
        FrBox.new B f _, by omega, by simp, fun e => by have := (hrow.lt _ e.symm).2; omega⟩
    rw [hA1] at hAX
    gi_wp2
    refine hK _ _ ((KeepsOthers.alloc B _).from _) (fun b hb => Below.heap_alloc _ _ _ (by omega)) ?_
    rw [hA1]
    exact hAX
  case body =>
    rintro l pre ⟨f, er⟩ a' B ⟨v, bx, hp, rfl, hv, hrow, hf, hb, hb1, hb2, hb3'⟩
    rw [hA1]
    dsimp only
    have hbn : Boxed B w.heap.size 22 (.slice none 0 0) := (hf.block _ (by omega) (by omega)).trans hN3
    have hbe : Boxed B (w.heap.size + 1) 27 (.int .i64 0) := (hf.block _ (by omega) (by omega)).trans hE3
    have hsz := hf.size
    by_cases he : er = 0
    · subst he
      have hcv := hv.cell
      have hcf := hv.frozen
      have hvlt := hv.lt
      obtain ⟨x0, x1, x2, x3⟩ := hb
      have hbB : some (w.heap.size + 2) ≠ v.ownBlock := fun e => by have := (hrow.lt _ e.symm).1; omega
      gi_wp2_with (refine wpListIn_append_fr _ rfl _ _ rfl w3.heap.size (pre.map (·.1)) [f] v ⟨B.heap.size, 0, none⟩ 1 1 rfl rfl rfl (hrow.from_ ((Below.refl _ _).alloc (Nat.le_refl _) _)) (by simp; omega) (by simp; omega) (c4_new B f) ?_)
      intro v2 w2 ho2 hg2
      obtain ⟨w2z, hw2z⟩ : ∃ z, w2.heap.size = z := ⟨_, rfl⟩
      have hsz2 := hg2.size
      rw [World.size_alloc] at hsz2
      have hk2 : ∀ c, c < B.heap.size → some c ≠ v.ownBlock → w2.heap[c]? = B.heap[c]? := fun c hc hne => (hg2.block c (by simp; omega) hne).trans (Below.heap_alloc _ _ _ (by omega))
      have hbox2 : Boxed w2 (w.heap.size + 2) 22 v := (hk2 _ hvlt hbB).trans hv
      have hcv2 := hbox2.cell
      have hcf2 := hbox2.frozen
      have hset := fun u => hbox2.set u
      have hos := hg2.os
      have hta := hg2.tape
      have hou := hg2.output
      obtain ⟨a2, cap2, hv2⟩ := ho2.len
      obtain ⟨n2, hn2⟩ : ∃ n2, (pre.map (·.1) ++ [f]).length = n2 := ⟨_, rfl⟩
      rw [hn2] at hv2
      clear hn2
      subst hv2
      have HO2 := Lib.hid ho2
      clear ho2 hcv hcf x0 x1 x2 x3
      gi_wp2
      have hkf : KeepsFrom w3.heap.size B (w2.setCell ⟨w.heap.size + 1 + 1, 0, none⟩ (.slice a2 n2 cap2)) := by
        refine ⟨by simp [World.setCell]; omega, fun c o h1 h2 h3 => ?_⟩
        have hc := (Array.getElem?_eq_some_iff.1 h2).1
        refine (Below.heap_setCell _ _ _ _ (by simp; omega)).trans ((hk2 c hc fun e => ?_).trans h2)
        obtain ⟨o', ho', hc'⟩ := hrow.cells e.symm
        rw [h2] at ho'
        cases ho'
        rw [h3] at hc'
        cases hc'
      have hor := HO2.out
      have hb2ne : (Value.slice a2 n2 cap2).ownBlock ≠ some (w.heap.size + 2) := fun e => by have := (hor.lt _ e).1; omega
      refine ⟨rfl, hkf, fun c hc => ?_, .slice a2 n2 cap2, hset _, ?_, ?_⟩
      · obtain ⟨hc1, hc2⟩ := hc
        exact (Below.heap_setCell _ _ _ _ (by simp; omega)).trans (hk2 c (by omega) fun e => by have := (hrow.lt _ e.symm).1; omega)
      · have hso := hor.set_other ⟨w.heap.size + 1 + 1, 0, none⟩ (.slice a2 n2 cap2) hb2ne
        rw [List.map_append, hz3]
        exact hso
      · refine Fr.set_ ⟨hos.trans hf.os, hta.trans hf.tape, hou.trans hf.output, by omega, fun c hc hne => ?_⟩ _ _ rfl
        exact (hk2 c (by omega) fun e => by have := (hrow.lt _ e.symm).1; omega).trans (hf.block c hc hne)
    · have he' : (((er : Nat) : Int) != 0) = true := by simp; omega
      have cn := hbn.cell
      have fn := hbn.frozen
      have ce := hbe.cell
      have fe := hbe.frozen
      gi_wp2
      refine ⟨fun h => he h, ((KeepsOthers.setCell _ _ _).trans (KeepsOthers.setCell _ _ _)).from _, (hbn.set _).other (by omega) _, (hbe.other (by omega) _).set _, ((hf.wider fun b h => .inl h).set_ _ _ (.inr (.inr rfl))).set_ _ _ (.inr (.inl rfl))⟩
  case done =>
    rintro Dd xs W hDd hxs ⟨v, hv, hrow, hf⟩ hK
    have hsz := hf.size
    have hbn : Boxed W w.heap.size 22 (.slice none 0 0) := (hf.block _ (by omega) (by omega)).trans hN3
    have hbe : Boxed W (w.heap.size + 1) 27 (.int .i64 0) := (hf.block _ (by omega) (by omega)).trans hE3
    obtain ⟨va, vc, hve⟩ := hrow.len
    rw [List.length_map] at hve
    subst hve
    have cv := hv.cell
    have cn := hbn.cell
    have fn := hbn.frozen
    have ce := hbe.cell
    have fe := hbe.frozen
    have hbe1 : Boxed (W.setCell ⟨w.heap.size, 0, none⟩ (.slice va xs.length vc)) (w.heap.size + 1) 27 (.int .i64 0) := hbe.other (by omega) _
    obtain ⟨X, hX⟩ : ∃ X, X = (W.setCell ⟨w.heap.size, 0, none⟩ (.slice va xs.length vc)).setCell ⟨w.heap.size + 1, 0, none⟩ (.int .i64 0) := ⟨_, rfl⟩
    have hXo : ∀ b, b ≠ w.heap.size → b ≠ w.heap.size + 1 → X.heap[b]? = W.heap[b]? := fun b h1 h2 => by
      rw [hX]
      exact (Below.heap_setCell _ _ _ _ (by simpa using h2)).trans (Below.heap_setCell _ _ _ _ (by simpa using h1))
    have hXz : X.heap.size = W.heap.size := by rw [hX]; simp [World.setCell]
    have hXos : X.os = W.os ∧ X.tape = W.tape ∧ X.output = W.output := by rw [hX]; exact ⟨rfl, rfl, rfl⟩
    have hXn : Boxed X w.heap.size 22 (.slice va xs.length vc) := by rw [hX]; exact (hbn.set _).other (by omega) _
    have hXe : Boxed X (w.heap.size + 1) 27 (.int .i64 (0 : Nat)) := by rw [hX]; exact hbe1.set _
    have hXr : FrRow w3.heap.size X (xs.map (·.1)) (.slice va xs.length vc) := by
      rw [hX]
      refine (hrow.set_other _ _ fun e => ?_).set_other _ _ fun e => ?_
      · have := (hrow.lt _ e).1; simp at this; omega
      · have := (hrow.lt _ e).1; simp at this; omega
    have hKX : X.heap[Dd]? = some (.deferred (some [])) := (hXo Dd (by omega) (by omega)).trans hK
    have HXR := Lib.hid hXr
    clear hXr hrow
    gi_wp2
    rw [← hX]
    refine leave_get X w.heap.size (w.heap.size + 1) Dd 0 _ va xs.length vc hKX (by omega) (by omega) hXn hXe rfl rfl _ ?_
    intro Z z1 z2 z3 z4 z5
    rw [hxs]
    refine ⟨va, vc, by simp, ?_, ?_⟩
    · have hr : FrRow w3.heap.size Z (xs.map (·.1)) (.slice va xs.length vc) := HXR.out.grown (row := some Dd) ⟨z1, z2, z3, by omega, fun b _ hb => z5 b (fun e => hb (by rw [e]))⟩ (fun g hg e => by cases e; exact HXR.out.notCells hKX rfl hg.symm)
      have := hr.fs
      simpa using this
    · refine ⟨z1.trans (hXos.1.trans (hf.os.trans hb3.os)), z2.trans (hXos.2.1.trans (hf.tape.trans hb3.tape)), z3.trans (hXos.2.2.trans (hf.output.trans hb3.output)), by omega, fun b hb => ?_⟩
      exact (z5 b (by omega)).trans ((hXo b (by omega) (by omega)).trans ((hf.block b (by omega) (by omega)).trans (hb3.block b hb)))
  case stop =>
    rintro Dd x W hDd ⟨hx0, hxi⟩ ⟨hXn, hXe, hXf⟩ hK
    have hsz := hXf.size
    gi_wp2
    refine leave_get W w.heap.size (w.heap.size + 1) Dd x.2 _ none 0 0 hK (by omega) (by omega) hXn hXe rfl rfl _ ?_
    intro Z z1 z2 z3 z4 z5
    rw [hxi]
    refine ⟨none, 0, rfl, .nil_ (by decide), ?_⟩
    refine ⟨z1.trans (hXf.os.trans hb3.os), z2.trans (hXf.tape.trans hb3.tape), z3.trans (hXf.output.trans hb3.output), by omega, fun b hb => ?_⟩
    exact (z5 b (by omega)).trans ((hXf.block b (by omega) (by omega)).trans (hb3.block b hb))

theorem get_two {fn : Func} (hres : fn.results = #[.cell 2 22, .cell 3 27]) (w W : World) (tmps : Array Value) (q : Nat) (R : Ending → World → Prop) (h2 : tmps.getD 2 undef = .pointer (some ⟨w.heap.size, 0, none⟩)) (h3 : tmps.getD 3 undef = .pointer (some ⟨w.heap.size + 1, 0, none⟩))
    (c0 : W.cell? ⟨w.heap.size, 0, none⟩ = some (.slice none 0 0)) (c1 : W.cell? ⟨w.heap.size + 1, 0, none⟩ = some (.int .i64 (q : Nat)))
    (h : R (.returned (.tuple #[.slice none 0 0, .int .i64 (q : Nat)])) W) : bodyPost Try.prog fn R .ret { tmps := tmps, defers := [] } W := by
  refine bodyPost_ret (results_cells hres _ _ _ ⟨w.heap.size, 0, none⟩ ⟨w.heap.size + 1, 0, none⟩ (.slice none 0 0) (.int .i64 (q : Nat)) h2 h3 ?_ ?_) rfl h
  · go_simp
  · go_simp

set_option maxRecDepth 100000 in
set_option maxHeartbeats 8000000 in
theorem fget_any (s : List UInt8) (w : World) (hs : s.length ≤ 300000) :
    Calls Try.prog 16 #[.string ⟨s.toArray⟩] w fun e w' => ∃ a cap, e = .returned (.tuple #[.slice a (M.getF s).1.length cap, .int .i64 ((M.getF s).2 : Nat)]) ∧ Fs w' w'.heap.size (M.getF s).1 (.slice a (M.getF s).1.length cap) ∧ Below w.heap.size w w' := by
  cases s with
  | nil =>
    go_enter Try.func16, Try.ntmps16
    go_wp2_with fail
    exact get_two rfl w _ _ 3 _ rfl rfl (by simp [go_sem]) (by simp [go_sem]) ⟨none, 0, rfl, .nil_ (by decide), ((Below.refl _ _).alloc (Nat.le_refl _) _).alloc (by simp) _⟩
  | cons c t =>
    by_cases hc : c.toNat = 0
    · obtain rfl : c = 0 := by rw [← UInt8.ofNat_toNat (x := c), hc]; rfl
      exact fget_main t w (by simp at hs; omega)
    · have e : M.getF (c :: t) = ([], 9) := by show (if c.toNat = 0 then M.getR 32 t else ([], 9)) = _; rw [if_neg hc]
      rw [e]
      have hix : ∀ hk : 0 < (⟨(c :: t).toArray⟩ : ByteArray).size, (⟨(c :: t).toArray⟩ : ByteArray)[0]'hk = c := idx_at (by rfl)
      have hne : ((⟨(c :: t).toArray⟩ : ByteArray) == ⟨#[]⟩) = false := by rfl
      have hc' : ¬ ((c.toNat : Nat) : Int) = 0 := by omega
      go_enter Try.func16, Try.ntmps16
      go_wp2_with fail
      exact get_two rfl w _ _ 9 _ rfl rfl (by simp [go_sem]) (by simp [go_sem]) ⟨none, 0, rfl, .nil_ (by decide), ((Below.refl _ _).alloc (Nat.le_refl _) _).alloc (by simp) _⟩
end Go.Proofs.Ytgeeoefcepjniaa
