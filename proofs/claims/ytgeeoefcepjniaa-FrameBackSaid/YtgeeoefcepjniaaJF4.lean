/- strings.Builder: a byte, a text, and what it holds. -/
import Derived.Test.YtgeeoefcepjniaaJF3
import Derived.Test.YtgeeoefcepjniaaSh
namespace Go.Proofs.Ytgeeoefcepjniaa
open Go Go.RowKit
attribute [local go_sem] Oper.semAt_some

/-- A builder of a call's own, with bytes in it; it has been written to, or not. -/
def Bld (B b : Nat) (p : Value) (l : List UInt8) (w : World) : Prop := B ≤ b ∧ ∃ v, w.heap[b]? = some (.cells #[p, v] 47 (0, 0)) ∧ Ow B l v w ∧ v.ownBlock ≠ some b
def Bd (B b : Nat) (l : List UInt8) (w : World) : Prop := Bld B b (.pointer none) l w ∨ Bld B b (.pointer (some ⟨b, 0, none⟩)) l w
theorem Bld.from_ {B b : Nat} {p : Value} {l : List UInt8} {w W : World} (h : Bld B b p l w) (hb : Below w.heap.size w W) : Bld B b p l W := by
  obtain ⟨h1, v, h2, h3, h4⟩ := h
  exact ⟨h1, v, (hb.block b (Array.getElem?_eq_some_iff.1 h2).1).trans h2, h3.from_ hb, h4⟩
theorem Bd.from_ {B b : Nat} {l : List UInt8} {w W : World} (h : Bd B b l w) (hb : Below w.heap.size w W) : Bd B b l W := h.imp (·.from_ hb) (·.from_ hb)
theorem Bd.new (w : World) : Bd w.heap.size w.heap.size [] (w.alloc (.cells #[.pointer none, .slice none 0 0] 47)) :=
  .inl ⟨Nat.le_refl _, _, heap_alloc_new w _, Ow.nil _ _, by simp [Value.ownBlock]⟩
theorem Ow.set_other {B : Nat} {l : List UInt8} {v : Value} {w : World} (h : Ow B l v w) (a : Addr) (u : Value) (ha : v.ownBlock ≠ some a.block) : Ow B l v (w.setCell a u) := by
  refine ⟨h.1, ?_⟩
  rcases h.2 with h0 | ⟨g, cap, cur, hv, hB, hg, h1⟩
  · exact .inl h0
  · exact .inr ⟨g, cap, cur, hv, hB, (Below.heap_setCell _ _ _ _ (fun e => ha (by rw [hv]; exact congrArg some e))).trans hg, h1⟩
theorem setcell_two {w : World} {b : Nat} {p v : Value} {t : TypeId} (h : w.heap[b]? = some (.cells #[p, v] t (0, 0))) (u : Value) :
    (w.setCell ⟨b, 0, none⟩ u).heap[b]? = some (.cells #[u, v] t (0, 0)) ∧ (w.setCell ⟨b, 1, none⟩ u).heap[b]? = some (.cells #[p, u] t (0, 0)) := by
  refine ⟨?_, ?_⟩
  · rw [setCell_eq_setRow w b 0 _ t (0, 0) u h]
    exact setRow_heap w b _ _ t (0, 0) h
  · rw [setCell_eq_setRow w b 1 _ t (0, 0) u h]
    exact setRow_heap w b _ _ t (0, 0) h
theorem bsize : (Try.prog.info? 47).map (·.size) = some 2 := by kernel_rfl

set_option maxRecDepth 100000 in
set_option maxHeartbeats 4000000 in
theorem bcheck_any (B b : Nat) (l : List UInt8) (w : World) (h : Bd B b l w) : Calls Try.prog 27 #[.pointer (some ⟨b, 0, none⟩)] w fun e w' => e = .returned (.tuple #[]) ∧ Bld B b (.pointer (some ⟨b, 0, none⟩)) l w' ∧ Below B w w' := by
  obtain ⟨j, hj, hjs⟩ := Option.map_eq_some_iff.1 bsize
  rcases h with ⟨h1, v, h2, h3, h4⟩ | ⟨h1, v, h2, h3, h4⟩
  · skip
    have c0 : w.cell? ⟨b, 0, none⟩ = some (.pointer none) := by rw [Lib.cell_of_heap h2]; rfl
    have f0 : w.frozen? ⟨b, 0, none⟩ = false := Lib.frozen_of_heap h2 0
    have hsh : w.shape? b = some (47, 2) := by unfold World.shape?; rw [h2]; rfl
    have hR : Bld B b (.pointer (some ⟨b, 0, none⟩)) l (w.setCell ⟨b, 0, none⟩ (.pointer (some ⟨b, 0, none⟩))) := ⟨h1, v, (setcell_two h2 _).1, h3.set_other _ _ h4, h4⟩
    have hBel : Below B w (w.setCell ⟨b, 0, none⟩ (.pointer (some ⟨b, 0, none⟩))) := (Below.refl B w).setCell (p := ⟨b, 0, none⟩) h1 _
    clear h2 h3 h4
    go_enter Try.func27, Try.ntmps27
    go_wp2
    rw [Lib.run_to_unsafe w ⟨b, 0, none⟩ Try.underlying44 Try.underlying66 hj (by rw [hjs]; decide) hsh (Nat.zero_lt_succ 1)]
    simp only [Result.andThen]
    rw [Oper.upon_value]
    go_wp2
    rw [run_callFunc_extern Try.func31 (by kernel_rfl) (by kernel_rfl) (by kernel_rfl) (e := Extern.AbiNoEscape.same) (by kernel_rfl)]
    rw [Lib.run_noEscape]
    simp only [Result.andThen]
    rw [Oper.upon_value]
    go_wp2
    rw [Lib.run_from_unsafe w ⟨b, 0, none⟩ Try.underlying66 Try.underlying44 hj hsh (by kernel_rfl)]
    simp only [Result.andThen]
    rw [Oper.upon_value]
    go_wp2
    go_end0
    exact ⟨rfl, hR, hBel⟩
  · have c0 : w.cell? ⟨b, 0, none⟩ = some (.pointer (some ⟨b, 0, none⟩)) := by rw [Lib.cell_of_heap h2]; rfl
    have hR : Bld B b (.pointer (some ⟨b, 0, none⟩)) l w := ⟨h1, v, h2, h3, h4⟩
    clear h2 h3 h4
    go_enter Try.func27, Try.ntmps27
    go_wp2
    rw [Lib.run_neq_ptr_same w _ Try.underlying44 hj]
    go_wp2
    go_end0
    exact ⟨rfl, hR, Below.refl _ _⟩

theorem wpList_append_owg_str {ops : Array Oper} {rest : List Oper} {o : Oper} {a : Act} {Q : Exit → Act → World → Prop} (w : World) (hgd : o.guard = none) (s x : Operand) (ho : o.op = .call { callee := .builtin .append, args := #[s, x], argTypes := #[45, 9] })
    (B : Nat) (l m : List UInt8) (v : Value) (hs : a.eval s = v) (hx : a.eval x = .string ⟨m.toArray⟩) (hown : Ow B l v w) (hn : l.length + m.length ≤ 140737488355328) (hB : B ≤ w.heap.size)
    (h : ∀ v' w', Ow B (l ++ m) v' w' → Below B w w' → w.grownBy w' v.ownBlock → wpList Try.prog ops Q rest (a.put o.dst v') w') : wpList Try.prog ops Q (o :: rest) a w := by
  obtain ⟨i0, hi, hz0, hz1, hz2⟩ := info_parts Try.ofU8
  have hml : (⟨m.toArray⟩ : ByteArray).size = m.length := by simp [ByteArray.size]
  refine Lib.wpList_append_own_string w hgd s x 45 9 ho B 5 i0 Try.underlying45 Try.underlying9 hi hz0 hz1 hz2 v l.length (bc l) hs hown ⟨m.toArray⟩ hx (by rw [hml]; unfold maxLen; omega) (by rw [hml]; omega) hB ?_
  intro v' w' h1 h2 _
  rw [hml, bc_str] at h1
  exact h v' w' (by unfold Ow; rw [bc_append, List.length_append]; exact h1) ((Below.refl _ _).grown h2 hB hown.block) h2
theorem Bld.put {B b : Nat} {m : List UInt8} {v v' : Value} {w2 : World} {p : Value} (h1 : B ≤ b) (hbk : w2.heap[b]? = some (.cells #[p, v] 47 (0, 0))) (ho : Ow B m v' w2) : Bld B b p m (w2.setCell ⟨b, 1, none⟩ v') := by
  have hne : v'.ownBlock ≠ some b := fun e => ho.not_ty hbk (by decide) e.symm
  exact ⟨h1, v', (setcell_two hbk _).2, ho.set_other _ _ hne, hne⟩

set_option maxRecDepth 100000 in
set_option maxHeartbeats 4000000 in
theorem bbyte_any (B b : Nat) (l : List UInt8) (c : UInt8) (w : World) (h : Bd B b l w) (hlen : l.length ≤ 1000000) (hBw : B ≤ w.heap.size) :
    Calls Try.prog 21 #[.pointer (some ⟨b, 0, none⟩), .int .u8 (c.toNat : Nat)] w fun e w' => e = .returned .nilIface ∧ Bd B b (l ++ [c]) w' ∧ Below B w w' := by
  go_enter Try.func21, Try.ntmps21
  go_wp2_with fail
  refine (bcheck_any B b l w h).mono ?_
  rintro e w1 ⟨rfl, ⟨h1, v, hbk, hown, hne⟩, hb1⟩
  have c1 : w1.cell? ⟨b, 1, none⟩ = some v := by rw [Lib.cell_of_heap hbk]; rfl
  have hz1 := hb1.size
  have hlt : b < w1.heap.size := (Array.getElem?_eq_some_iff.1 hbk).1
  go_wp2_with (at_builtin; refine wpList_append_ow _ rfl _ _ rfl B l [c] v _ rfl rfl (hown.from_ ((Below.refl _ _).alloc (Nat.le_refl _) _)) (Ow.lit w1 c).sr (by simp; omega) (by simp; omega) ?_)
  intro v2 w2 ho2 hb2 hg2
  have hbk2 : w2.heap[b]? = some (.cells #[.pointer (some ⟨b, 0, none⟩), v] 47 (0, 0)) := (hg2.block b (by simp; omega) (fun e => hne e.symm)).trans ((Below.heap_alloc _ _ _ (by omega)).trans hbk)
  have d1 : w2.cell? ⟨b, 1, none⟩ = some v := by rw [Lib.cell_of_heap hbk2]; rfl
  have f1 : w2.frozen? ⟨b, 1, none⟩ = false := Lib.frozen_of_heap hbk2 1
  have hput := Bld.put h1 hbk2 ho2
  have hbel := (hb1.trans (((Below.refl B w1).alloc (by omega) _).trans hb2)).setCell (p := ⟨b, 1, none⟩) h1 v2
  obtain ⟨a2, cap2, rfl⟩ := ho2.len
  clear ho2
  simp only [List.length_append, List.length_cons, List.length_nil] at hput hbel
  go_wp2_with fail
  go_ret
  exact ⟨rfl, .inr hput, hbel⟩

set_option maxRecDepth 100000 in
set_option maxHeartbeats 4000000 in
theorem btext_any (B b : Nat) (l s : List UInt8) (w : World) (h : Bd B b l w) (hlen : l.length + s.length ≤ 1000000) (hBw : B ≤ w.heap.size) :
    Calls Try.prog 22 #[.pointer (some ⟨b, 0, none⟩), .string ⟨s.toArray⟩] w fun e w' => e = .returned (.tuple #[.int .i64 (s.length : Nat), .nilIface]) ∧ Bd B b (l ++ s) w' ∧ Below B w w' := by
  go_enter Try.func22, Try.ntmps22
  go_wp2_with fail
  refine (bcheck_any B b l w h).mono ?_
  rintro e w1 ⟨rfl, ⟨h1, v, hbk, hown, hne⟩, hb1⟩
  have c1 : w1.cell? ⟨b, 1, none⟩ = some v := by rw [Lib.cell_of_heap hbk]; rfl
  have hz1 := hb1.size
  have hlt : b < w1.heap.size := (Array.getElem?_eq_some_iff.1 hbk).1
  go_wp2_with (at_builtin; refine wpList_append_owg_str _ rfl _ _ rfl B l s v rfl rfl hown (by omega) (by omega) ?_)
  intro v2 w2 ho2 hb2 hg2
  have hbk2 : w2.heap[b]? = some (.cells #[.pointer (some ⟨b, 0, none⟩), v] 47 (0, 0)) := (hg2.block b (by omega) (fun e => hne e.symm)).trans hbk
  have d1 : w2.cell? ⟨b, 1, none⟩ = some v := by rw [Lib.cell_of_heap hbk2]; rfl
  have f1 : w2.frozen? ⟨b, 1, none⟩ = false := Lib.frozen_of_heap hbk2 1
  have hput := Bld.put h1 hbk2 ho2
  have hbel := (hb1.trans hb2).setCell (p := ⟨b, 1, none⟩) h1 v2
  obtain ⟨a2, cap2, rfl⟩ := ho2.len
  clear ho2
  simp only [List.length_append] at hput hbel
  go_wp2_with fail
  go_ret2
  exact ⟨rfl, .inr hput, hbel⟩
theorem bstr_any (B b : Nat) (l : List UInt8) (w : World) (h : Bd B b l w) (hBw : B ≤ w.heap.size) :
    Calls Try.prog 23 #[.pointer (some ⟨b, 0, none⟩)] w fun e w' => e = .returned (.string ⟨l.toArray⟩) ∧ Below B w w' := by
  have key : ∀ p, Bld B b p l w → Lib.BuilderAt 47 5 B b p (Lib.byteCells l) w := fun p ⟨h1, v, h2, h3, h4⟩ => ⟨h1, v, h2, by rw [Lib.byteCells_length]; exact h3, h4⟩
  exact Go.Proofs.Any.Builder_String_any (P := Try.prog) (ρ := lays169_ren) lays169 Builder_Extra_169 B b l w (h.imp (key _) (key _)) hBw
end Go.Proofs.Ytgeeoefcepjniaa
