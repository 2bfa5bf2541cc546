/- Bytes that a call owns: what is appended to them. -/
import Derived.Test.YtgeeoefcepjniaaC0
import Derived.Lib.ConvBytes
import Derived.Lib.AppendStr
import Derived.Laws.AppendOwnNone
import Derived.Laws.OwnMore
import Derived.Laws.CopyRow
namespace Go.Proofs.Ytgeeoefcepjniaa
open Go Go.RowKit Go.Lib

theorem Try.ofU8 : (Try.prog.info? 5).map (fun i => (i.zero, i.size, i.bytes)) = some (some (.int .u8 0), 1, 1) := by kernel_rfl

theorem conv_at (xs : List UInt8) (W : World) (b : Nat) (h : ∀ j, j < xs.length → W.cell? ⟨b, j, none⟩ = some (.int .u8 ((xs.getD j 0).toNat : Int))) : (convert 45 9 (.slice (some ⟨b, 0, none⟩) xs.length xs.length)).run Try.prog W = .ok (.string ⟨xs.toArray⟩) W := by
  refine run_convert_bytes_back W 45 9 5 ⟨b, 0, none⟩ xs.length xs Try.underlying45 Try.underlying5 Try.underlying9 ?_
  intro j hj
  have e : xs.getD j 0 = xs[j] := by rw [List.getD_eq_getElem?_getD, List.getElem?_eq_getElem hj, Option.getD_some]
  have := h j hj
  rw [e] at this
  by_cases h0 : j = 0
  · subst h0
    simpa [Addr.add] using this
  · simpa [Addr.add, h0] using this

/-- What a conversion of a string to bytes leaves. -/
structure Seal (w w' : World) (e : TypeId) (b : ByteArray) (cap : Nat) (cur : Array Value) : Prop where
  row : w'.heap[w.heap.size]? = some (.cells cur e (cur.size, cur.size + 1))
  size : cur.size = cap
  len : b.size ≤ cap
  max : cap ≤ maxLen
  take : cur.toList.take b.size = strCells b
  low : Below w.heap.size w w'
  new : w'.heap.size = w.heap.size + 1

theorem seal_is (w : World) (e : TypeId) (b : ByteArray) (hb : b.size ≤ maxLen) : Seal w (bytesWorld w e b) e b (grownCap w b.size 0 e) (bytesCells w e b) := by
  have hge := grownCap_ge w b.size 0 e
  have hcm := grownCap_le_maxLen w b.size 0 e hb
  have hsz : (bytesCells w e b).size = grownCap w b.size 0 e := by
    have : b.data.size = b.size := rfl
    simp [bytesCells, this]
    omega
  refine ⟨bytesWorld_at_new w e b, hsz, hge, hcm, ?_, ⟨rfl, rfl, rfl, by rw [bytesWorld_size]; omega, fun k hk => bytesWorld_at_old w e b k hk⟩, bytesWorld_size w e b⟩
  have hl : b.size = (b.data.toList.map fun x : UInt8 => Value.int .u8 x.toNat).length := by
    rw [List.length_map, Array.length_toList]; rfl
  unfold bytesCells strCells
  rw [Array.toList_append, Array.toList_map, hl, List.take_left]


theorem wpList_seal {P : Program} {ops : Array Oper} {rest : List Oper} {o : Oper} {a : Act} {Q : Exit → Act → World → Prop} (w : World) (hgd : o.guard = none) (src dst e : TypeId) (x : Operand)
    (ho : o.op = .convert src dst x) (b : ByteArray) (hx : a.eval x = .string b) (hs : P.underlying src = some .string) (hd : P.underlying dst = some (.slice e)) (he : P.underlying e = some (.int .u8)) (hb : b.size ≤ maxLen)
    (h : ∀ cap cur w', Seal w w' e b cap cur → wpList P ops Q rest (a.put o.dst (.slice (some ⟨w.heap.size, 0, none⟩) b.size cap)) w') : wpList P ops Q (o :: rest) a w := by
  refine wpList_plain hgd fun K hK => ?_
  have hr := Go.Lib.run_convert_string_bytes (P := P) w src dst e b hs hd he
  unfold Oper.wp execOp
  simp only [ho, hx, Sem.run_bind, Sem.run_pure]
  rw [hr]
  exact hK _ _ (h _ _ _ (seal_is w e b hb))

/-- The cells of bytes. -/
def bc (l : List UInt8) : List Value := l.map fun (c : UInt8) => Value.int .u8 (c.toNat : Int)
theorem bc_length (l : List UInt8) : (bc l).length = l.length := by simp [bc]
theorem bc_append (l m : List UInt8) : bc (l ++ m) = bc l ++ bc m := by simp [bc]
theorem bc_one (l : List UInt8) : ∀ u ∈ bc l, u.oneCell' = true := fun u hu => by
  obtain ⟨_, _, rfl⟩ := List.mem_map.1 hu
  rfl
theorem bc_str (l : List UInt8) : strCells (⟨l.toArray⟩ : ByteArray) = bc l := rfl

/-- Bytes of one's own, in a block that is no older than B. -/
def Ow (B : Nat) (l : List UInt8) (v : Value) (w : World) : Prop := w.ownsRow B 5 1 v l.length (bc l)
theorem Ow.nil (B : Nat) (w : World) : Ow B [] (.slice none 0 0) w := World.ownsRow_nil _ _ _ _
theorem Ow.mono {A B : Nat} {l : List UInt8} {v : Value} {w : World} (h : Ow B l v w) (hAB : A ≤ B) : Ow A l v w := by
  refine ⟨h.1, ?_⟩
  rcases h.2 with h0 | ⟨g, cap, cur, hv, hb, h1⟩
  · exact .inl h0
  · exact .inr ⟨g, cap, cur, hv, by omega, h1⟩
theorem Ow.from_ {B : Nat} {l : List UInt8} {v : Value} {w W : World} (h : Ow B l v w) (hb : Below w.heap.size w W) : Ow B l v W := by
  refine ⟨h.1, ?_⟩
  rcases h.2 with h0 | ⟨g, cap, cur, hv, hB, hg, h1⟩
  · exact .inl h0
  · exact .inr ⟨g, cap, cur, hv, hB, (hb.block g (Array.getElem?_eq_some_iff.1 hg).1).trans hg, h1⟩

/-- What an append takes its bytes from. -/
def Sr (l : List UInt8) (v : Value) (w : World) : Prop := (v = .slice none 0 0 ∧ l = []) ∨ ∃ ad c, v = .slice (some ad) l.length c ∧ ∀ j u, (bc l)[j]? = some u → w.cell? (ad.add j) = some u
theorem Ow.sr {B : Nat} {l : List UInt8} {v : Value} {w : World} (h : Ow B l v w) : Sr l v w := by
  have h' := h
  rcases h.2 with ⟨h0, h1⟩ | ⟨g, cap, cur, rfl, hB, hg, h1⟩
  · exact .inl ⟨h0, List.eq_nil_of_length_eq_zero h1⟩
  · exact .inr ⟨⟨g, 0, none⟩, cap, rfl, World.ownsRow.cells h' (g := g) rfl⟩
theorem Sr.from_ {l : List UInt8} {v : Value} {w W : World} (h : Sr l v w) (hb : Below w.heap.size w W) : Sr l v W := by
  rcases h with h | ⟨ad, c, rfl, hc⟩
  · exact .inl h
  · exact .inr ⟨ad, c, rfl, fun j u hj => (hb.cell (World.block_lt_of_cell? _ _ (hc j u hj))).trans (hc j u hj)⟩
theorem Ow.lit (w : World) (c : UInt8) : Ow w.heap.size [c] (.slice (some ⟨w.heap.size, 0, none⟩) 1 1) (w.alloc (.cells #[.int .u8 (c.toNat : Int)] 5)) :=
  ⟨rfl, .inr ⟨w.heap.size, 1, #[.int .u8 (c.toNat : Int)], rfl, Nat.le_refl _, heap_alloc_new w _, Nat.le_refl _, by decide, rfl, rfl⟩⟩
/-- The slice itself. -/
theorem Ow.len {B : Nat} {l : List UInt8} {v : Value} {w : World} (h : Ow B l v w) : ∃ a cap, v = .slice a l.length cap := by
  rcases h.2 with ⟨h0, h1⟩ | ⟨g, cap, cur, rfl, hB, hg, h1⟩
  · exact ⟨none, 0, by rw [h0, h1]⟩
  · exact ⟨_, _, rfl⟩
theorem Ow.block {B : Nat} {l : List UInt8} {v : Value} {w : World} (h : Ow B l v w) : ∀ k, v.ownBlock = some k → B ≤ k := fun k e => (World.ownsRow.lt h k e).1

theorem grown_refl (w : World) (v : Option Nat) : w.grownBy w v := ⟨rfl, rfl, rfl, Nat.le_refl _, fun _ _ _ => rfl⟩

section
variable {ops : Array Oper} {rest : List Oper} {o : Oper} {a : Act} {Q : Exit → Act → World → Prop}
theorem wpList_append_ow (w : World) (hgd : o.guard = none) (s x : Operand) (ho : o.op = .call { callee := .builtin .append, args := #[s, x], argTypes := #[45, 45] })
    (B : Nat) (l m : List UInt8) (v u : Value) (hs : a.eval s = v) (hx : a.eval x = u) (hown : Ow B l v w) (hsrc : Sr m u w) (hn : l.length + m.length ≤ 140737488355328) (hB : B ≤ w.heap.size)
    (h : ∀ v' w', Ow B (l ++ m) v' w' → Below B w w' → w.grownBy w' v.ownBlock → wpList Try.prog ops Q rest (a.put o.dst v') w') : wpList Try.prog ops Q (o :: rest) a w := by
  obtain ⟨i0, hi, hz0, hz1, hz2⟩ := info_parts Try.ofU8
  rcases hsrc with ⟨rfl, rfl⟩ | ⟨ad, c, rfl, hc⟩
  · refine wpList_append_own_none hgd s x 45 ho B 5 i0 1 Try.underlying45 hi v l.length (bc l) hs hown hx ?_
    have := h v w (by rwa [List.append_nil]) (Below.refl _ _) (grown_refl _ _)
    exact this
  · refine wpList_append_own w hgd s x 45 ho B 5 i0 (.int .u8 0) 1 1 Try.underlying45 hi hz0 hz1 hz2 rfl (by decide) v l.length (bc l) hs hown ad m.length c (bc m) hx (by rw [bc_length, Nat.mul_one]) hc (bc_one m) (by unfold maxLen; omega) (by omega) hB ?_
    intro v' w' h1 h2 _
    exact h v' w' (by unfold Ow; rw [bc_append, List.length_append]; exact h1) ((Below.refl _ _).grown h2 hB hown.block) h2
theorem wpList_append_ow_str (w : World) (hgd : o.guard = none) (s x : Operand) (ho : o.op = .call { callee := .builtin .append, args := #[s, x], argTypes := #[45, 9] })
    (B : Nat) (l m : List UInt8) (v : Value) (hs : a.eval s = v) (hx : a.eval x = .string ⟨m.toArray⟩) (hown : Ow B l v w) (hn : l.length + m.length ≤ 140737488355328) (hB : B ≤ w.heap.size)
    (h : ∀ v' w', Ow B (l ++ m) v' w' → Below B w w' → wpList Try.prog ops Q rest (a.put o.dst v') w') : wpList Try.prog ops Q (o :: rest) a w := by
  obtain ⟨i0, hi, hz0, hz1, hz2⟩ := info_parts Try.ofU8
  have hml : (⟨m.toArray⟩ : ByteArray).size = m.length := by simp [ByteArray.size]
  refine wpList_append_own_string w hgd s x 45 9 ho B 5 i0 Try.underlying45 Try.underlying9 hi hz0 hz1 hz2 v l.length (bc l) hs hown ⟨m.toArray⟩ hx (by rw [hml]; unfold maxLen; omega) (by rw [hml]; omega) hB ?_
  intro v' w' h1 h2 _
  rw [hml, bc_str] at h1
  exact h v' w' (by unfold Ow; rw [bc_append, List.length_append]; exact h1) ((Below.refl _ _).grown h2 hB hown.block)
end

theorem Seal.sr {w w2 : World} {l : List UInt8} {cap : Nat} {cur : Array Value} (h : Seal w w2 5 ⟨l.toArray⟩ cap cur) : Sr l (.slice (some ⟨w.heap.size, 0, none⟩) l.length cap) w2 := by
  refine .inr ⟨_, _, rfl, fun j u hj => ?_⟩
  have hadd : (⟨w.heap.size, 0, none⟩ : Addr).add j = ⟨w.heap.size, j, none⟩ := by unfold Addr.add; split <;> simp_all
  rw [hadd, cell_of_row w2 _ j cur 5 _ h.row]
  have ht : cur.toList.take l.length = bc l := by
    have := h.take
    rwa [bc_str, show (⟨l.toArray⟩ : ByteArray).size = l.length by simp [ByteArray.size]] at this
  rw [← ht, List.getElem?_take] at hj
  split at hj
  · simpa using hj
  · cases hj
end Go.Proofs.Ytgeeoefcepjniaa
