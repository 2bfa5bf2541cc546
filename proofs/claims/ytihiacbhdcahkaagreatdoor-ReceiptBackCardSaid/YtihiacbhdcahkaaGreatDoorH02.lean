/- Plain arithmetic: how many items an item holds; what its bytes come to at most; parts by their places. How an item lies in memory. Bytes as strings: converted, put together, cut, looked into. Bytes that a call owns: what is appended to them. Regions that draw their order: found by their numbers; in a round as everywhere, if they defer nothing. -/
import Derived.Test.YtihiacbhdcahkaaGreatDoorH01
import Derived.Lib.Hide
import Derived.Laws.BytesArg
import Derived.Lib.ConvBytes
import Derived.Lib.AppendStr
import Derived.Laws.AppendOwnNone
import Derived.Laws.OwnMore
import Derived.Laws.CopyRow
import Derived.RangeFuncCalls
import Derived.OrdersIn
import Derived.LoopIn
namespace Go.Proofs.YtihiacbhdcahkaaGreatDoor.M

mutual
def cntI : It → Nat
  | .mk _ _ xs => 1 + cntIs xs
def cntIs : List It → Nat
  | [] => 0
  | x :: xs => cntI x + cntIs xs
end
mutual
/-- No bytes in it are longer than any string. -/
def smI : It → Prop
  | .mk _ b xs => b.length ≤ 140737488355328 ∧ smIs xs
def smIs : List It → Prop
  | [] => True
  | x :: xs => smI x ∧ smIs xs
end
theorem cntI_pos (x : It) : 1 ≤ cntI x := by cases x; rw [cntI]; omega
theorem length_cnt : ∀ xs : List It, xs.length ≤ cntIs xs
  | [] => Nat.zero_le _
  | x :: xs => by
    rw [cntIs, List.length_cons]
    have h1 := cntI_pos x
    have h2 := length_cnt xs
    omega
theorem take_next {xs : List It} {k : Nat} {x : It} (h : xs[k]? = some x) : xs.take (k + 1) = xs.take k ++ [x] := by
  rw [List.take_add_one, h]; rfl
theorem bytesIs_part (xs : List It) (k : Nat) : (bytesIs (xs.take k)).length ≤ (bytesIs xs).length := by
  have := bytesIs_append (xs.take k) (xs.drop k)
  rw [List.take_append_drop] at this
  rw [this, List.length_append]; omega
theorem cntI_part : ∀ {xs : List It} {x : It}, x ∈ xs → cntI x ≤ cntIs xs
  | y :: ys, x, h => by
    rw [cntIs]
    rcases List.mem_cons.1 h with rfl | h
    · omega
    · have := cntI_part h; omega
theorem smI_part : ∀ {xs : List It} {x : It}, smIs xs → x ∈ xs → smI x
  | y :: ys, x, hs, h => by
    rw [smIs] at hs
    rcases List.mem_cons.1 h with rfl | h
    · exact hs.1
    · exact smI_part hs.2 h

theorem formIs_append (d : Nat) (xs ys : List It) : formIs d (xs ++ ys) = if formIs d xs ≠ 0 then formIs d xs else formIs d ys := by
  induction xs with
  | nil => simp [formIs]
  | cons x xs ih =>
    rw [List.cons_append, formIs, formIs, ih]
    by_cases h1 : formI d x ≠ 0
    · rw [if_pos h1, if_pos h1, if_pos h1]
    · rw [if_neg h1, if_neg h1]
theorem formIs_next {d : Nat} {xs : List It} {k : Nat} {x : It} (h : xs[k]? = some x) (h0 : formIs d (xs.take k) = 0) : formIs d (xs.take (k + 1)) = formI d x := by
  rw [take_next h, formIs_append, h0, if_neg (by simp), formIs, formIs]
  split <;> omega
theorem formIs_first {d : Nat} {xs : List It} {k : Nat} {x : It} (h : xs[k]? = some x) (h0 : formIs d (xs.take k) = 0) (h1 : formI d x ≠ 0) : formIs d xs = formI d x := by
  have h2 := formIs_append d (xs.take (k + 1)) (xs.drop (k + 1))
  rw [List.take_append_drop, formIs_next h h0, if_pos h1] at h2
  exact h2

end Go.Proofs.YtihiacbhdcahkaaGreatDoor.M
namespace Go.Proofs.YtihiacbhdcahkaaGreatDoor
open Go Go.RowKit

/-- What a slice of items leads to, in the first n blocks. -/
inductive Lay (w : World) (n : Nat) : List M.It → Value → Prop
  | nil_ {a : Option Addr} {cap : Nat} (hm : cap ≤ maxLen) : Lay w n [] (.slice a 0 cap)
  | row {xs : List M.It} {b o cap : Nat} (V : Nat → Value) (hb : b < n) (hc : xs.length ≤ cap) (hm : cap ≤ maxLen)
      (c0 : ∀ i l d ys, xs[i]? = some (.mk l d ys) → w.cell? ⟨b, o + i * 3, none⟩ = some (.bool l))
      (c1 : ∀ i l d ys, xs[i]? = some (.mk l d ys) → w.cell? ⟨b, o + i * 3 + 1, none⟩ = some (.string ⟨d.toArray⟩))
      (c2 : ∀ i l d ys, xs[i]? = some (.mk l d ys) → w.cell? ⟨b, o + i * 3 + 2, none⟩ = some (V i))
      (r : ∀ i l d ys, xs[i]? = some (.mk l d ys) → Lay w n ys (V i)) : Lay w n xs (.slice (some ⟨b, o, none⟩) xs.length cap)

theorem Lay.from_ {w W : World} {n : Nat} {xs : List M.It} {v : Value} (h : Lay w n xs v) (hb : Below n w W) : Lay W n xs v := by
  induction h with
  | nil_ hm => exact .nil_ hm
  | row V hlt hc hm c0 c1 c2 _ ih =>
    exact .row V hlt hc hm (fun i l d ys e => (hb.cell (p := ⟨_, _, _⟩) hlt).trans (c0 i l d ys e)) (fun i l d ys e => (hb.cell (p := ⟨_, _, _⟩) hlt).trans (c1 i l d ys e)) (fun i l d ys e => (hb.cell (p := ⟨_, _, _⟩) hlt).trans (c2 i l d ys e)) ih
theorem Lay.mono {w : World} {n m : Nat} {xs : List M.It} {v : Value} (h : Lay w n xs v) (hnm : n ≤ m) : Lay w m xs v := by
  induction h with
  | nil_ hm => exact .nil_ hm
  | row V hlt hc hm c0 c1 c2 _ ih => exact .row V (by omega) hc hm c0 c1 c2 ih

/-- The slice itself. -/
theorem Lay.slice {w : World} {n : Nat} {xs : List M.It} {v : Value} (h : Lay w n xs v) : ∃ a cap, v = .slice a xs.length cap ∧ xs.length ≤ cap ∧ cap ≤ maxLen := by
  cases h with
  | nil_ hm => exact ⟨_, _, rfl, Nat.zero_le _, hm⟩
  | row V hlt hc hm c0 c1 c2 r => exact ⟨_, _, rfl, hc, hm⟩
/-- One item of a slice. -/
theorem Lay.at_ {w : World} {n k : Nat} {xs : List M.It} {v : Value} (h : Lay w n xs v) (hk : k < xs.length) : ∃ b o cap l d ys u, v = .slice (some ⟨b, o, none⟩) xs.length cap ∧ b < n ∧ xs[k]? = some (.mk l d ys) ∧
    w.cell? ⟨b, o + k * 3, none⟩ = some (.bool l) ∧ w.cell? ⟨b, o + k * 3 + 1, none⟩ = some (.string ⟨d.toArray⟩) ∧ w.cell? ⟨b, o + k * 3 + 2, none⟩ = some u ∧ Lay w n ys u := by
  cases h with
  | nil_ hm => simp at hk
  | @row _ b o cap V hlt hc hm c0 c1 c2 r =>
    obtain ⟨l, d, ys, e⟩ : ∃ l d ys, xs[k]? = some (.mk l d ys) := by
      rw [List.getElem?_eq_getElem hk]
      obtain ⟨l, d, ys⟩ := xs[k]
      exact ⟨l, d, ys, rfl⟩
    exact ⟨b, o, cap, l, d, ys, V k, rfl, hlt, e, c0 k l d ys e, c1 k l d ys e, c2 k l d ys e, r k l d ys e⟩

/-- An item as a value. -/
abbrev iv (l : Bool) (d : List UInt8) (v : Value) : Value := .agg #[.bool l, .string ⟨d.toArray⟩, v]

/-- The box of an item. -/
structure Box (W : World) (S : Nat) (l : Bool) (d : List UInt8) (v : Value) : Prop where
  c0 : W.cell? ⟨S, 0, none⟩ = some (.bool l)
  c1 : W.cell? ⟨S, 1, none⟩ = some (.string ⟨d.toArray⟩)
  c2 : W.cell? ⟨S, 2, none⟩ = some v
theorem Box.new (w : World) (l : Bool) (d : List UInt8) (v : Value) (t : TypeId) : Box (w.alloc (.cells #[.bool l, .string ⟨d.toArray⟩, v] t)) w.heap.size l d v := ⟨by simp [go_sem], by simp [go_sem], by simp [go_sem]⟩
theorem Box.from_ {w W : World} {S n : Nat} {l : Bool} {d : List UInt8} {v : Value} (h : Box w S l d v) (hb : Below n w W) (hS : S < n) : Box W S l d v :=
  ⟨(hb.cell (p := ⟨S, 0, none⟩) hS).trans h.c0, (hb.cell (p := ⟨S, 1, none⟩) hS).trans h.c1, (hb.cell (p := ⟨S, 2, none⟩) hS).trans h.c2⟩

theorem size_get {xs : List M.It} {k : Nat} {x : M.It} (h : xs[k]? = some x) : SizeOf.sizeOf x < SizeOf.sizeOf xs := by
  have := List.mem_of_getElem? h
  exact List.sizeOf_lt_of_mem this
end Go.Proofs.YtihiacbhdcahkaaGreatDoor
namespace Go.Proofs.YtihiacbhdcahkaaGreatDoor
open Go Go.RowKit

theorem wrap_u8 {a : Int} {c : UInt8} (h : a = (c.toNat : Nat)) : IntKind.u8.wrap a = ((c.toNat : Nat) : Int) := by
  have hc := c.toNat_lt
  rw [h]
  show ((c.toNat : Nat) : Int) % (2 ^ 8 : Int) = _
  omega
theorem ofNat_at {k : Nat} (h : k < 256) : ((UInt8.ofNat k).toNat : Nat) = k := UInt8.toNat_ofNat_of_lt' h

theorem cutS (t : List UInt8) (j k : Nat) : (⟨t.toArray⟩ : ByteArray).extract j k = ⟨((t.take k).drop j).toArray⟩ := by
  apply ByteArray.ext
  simp [ByteArray.data_extract, List.drop_take]

theorem idx_at {l : List UInt8} {k : Nat} {c : UInt8} (h : l[k]? = some c) : ∀ hk : k < (⟨l.toArray⟩ : ByteArray).size, (⟨l.toArray⟩ : ByteArray)[k]'hk = c := fun hk => by
  obtain ⟨h1, h2⟩ := List.getElem?_eq_some_iff.1 h
  show l.toArray[k] = c
  simpa using h2

theorem wrap_byte (c : UInt8) : wrap64 ((c.toNat : Nat) : Int) = ((c.toNat : Nat) : Int) := by
  have := c.toNat_lt
  unfold wrap64
  omega

/-- A string from one place to another one. -/
theorem slice_str (l : List UInt8) (a b : Nat) (hab : a ≤ b) (hbl : b ≤ l.length) (w : World) :
    (Instr.slice 9 (.string ⟨l.toArray⟩) (some (.int .i64 a)) (some (.int .i64 b)) none).run Tryz.prog w = .ok (.string ((⟨l.toArray⟩ : ByteArray).extract a b)) w := by
  have h1 : ((a : Nat) : Int) ≤ b := by omega
  have hs : (⟨l.toArray⟩ : ByteArray).size = l.length := rfl
  have h2 : ((b : Nat) : Int) ≤ ((⟨l.toArray⟩ : ByteArray).size : Nat) := by rw [hs]; omega
  simp [Instr.slice, run_underlying Tryz.underlying9, Instr.sliceBounds, run_sliceBound, h1, h2]

end Go.Proofs.YtihiacbhdcahkaaGreatDoor
namespace Go.Proofs.YtihiacbhdcahkaaGreatDoor
open Go Go.RowKit Go.Lib

theorem Tryz.ofU8 : (Tryz.prog.info? 5).map (fun i => (i.zero, i.size, i.bytes)) = some (some (.int .u8 0), 1, 1) := by kernel_rfl

theorem conv_at (xs : List UInt8) (W : World) (b : Nat) (h : ∀ j, j < xs.length → W.cell? ⟨b, j, none⟩ = some (.int .u8 ((xs.getD j 0).toNat : Int))) : (convert 76 9 (.slice (some ⟨b, 0, none⟩) xs.length xs.length)).run Tryz.prog W = .ok (.string ⟨xs.toArray⟩) W := by
  refine run_convert_bytes_back W 76 9 5 ⟨b, 0, none⟩ xs.length xs Tryz.underlying76 Tryz.underlying5 Tryz.underlying9 ?_
  intro j hj
  have e : xs.getD j 0 = xs[j] := by rw [List.getD_eq_getElem?_getD, List.getElem?_eq_getElem hj, Option.getD_some]
  have := h j hj
  rw [e] at this
  by_cases h0 : j = 0
  · subst h0
    simpa [Addr.add] using this
  · simpa [Addr.add, h0] using this

/-- What a conversion of a string to bytes leaves. -/
structure Seal (w w' : World) (e : TypeId) (b : ByteArray) (cap : Nat) (cur : Array Value) : Prop where
  row : w'.heap[w.heap.size]? = some (.cells cur e (cur.size, cur.size + 1))
  size : cur.size = cap
  len : b.size ≤ cap
  max : cap ≤ maxLen
  take : cur.toList.take b.size = strCells b
  low : Below w.heap.size w w'
  new : w'.heap.size = w.heap.size + 1

theorem seal_is (w : World) (e : TypeId) (b : ByteArray) (hb : b.size ≤ maxLen) : Seal w (bytesWorld w e b) e b (grownCap w b.size 0 e) (bytesCells w e b) := by
  have hge := grownCap_ge w b.size 0 e
  have hcm := grownCap_le_maxLen w b.size 0 e hb
  have hsz : (bytesCells w e b).size = grownCap w b.size 0 e := by
    have : b.data.size = b.size := rfl
    simp [bytesCells, this]
    omega
  refine ⟨bytesWorld_at_new w e b, hsz, hge, hcm, ?_, ⟨rfl, rfl, rfl, by rw [bytesWorld_size]; omega, fun k hk => bytesWorld_at_old w e b k hk⟩, bytesWorld_size w e b⟩
  have hl : b.size = (b.data.toList.map fun x : UInt8 => Value.int .u8 x.toNat).length := by
    rw [List.length_map, Array.length_toList]; rfl
  unfold bytesCells strCells
  rw [Array.toList_append, Array.toList_map, hl, List.take_left]


theorem wpList_seal {P : Program} {ops : Array Oper} {rest : List Oper} {o : Oper} {a : Act} {Q : Exit → Act → World → Prop} (w : World) (hgd : o.guard = none) (src dst e : TypeId) (x : Operand)
    (ho : o.op = .convert src dst x) (b : ByteArray) (hx : a.eval x = .string b) (hs : P.underlying src = some .string) (hd : P.underlying dst = some (.slice e)) (he : P.underlying e = some (.int .u8)) (hb : b.size ≤ maxLen)
    (h : ∀ cap cur w', Seal w w' e b cap cur → wpList P ops Q rest (a.put o.dst (.slice (some ⟨w.heap.size, 0, none⟩) b.size cap)) w') : wpList P ops Q (o :: rest) a w := by
  refine wpList_plain hgd fun K hK => ?_
  have hr := Go.Lib.run_convert_string_bytes (P := P) w src dst e b hs hd he
  unfold Oper.wp execOp
  simp only [ho, hx, Sem.run_bind, Sem.run_pure]
  rw [hr]
  exact hK _ _ (h _ _ _ (seal_is w e b hb))

/-- The cells of bytes. -/
def bc (l : List UInt8) : List Value := l.map fun (c : UInt8) => Value.int .u8 (c.toNat : Int)
theorem bc_length (l : List UInt8) : (bc l).length = l.length := by simp [bc]
theorem bc_append (l m : List UInt8) : bc (l ++ m) = bc l ++ bc m := by simp [bc]
theorem bc_one (l : List UInt8) : ∀ u ∈ bc l, u.oneCell' = true := fun u hu => by
  obtain ⟨_, _, rfl⟩ := List.mem_map.1 hu
  rfl
theorem bc_str (l : List UInt8) : strCells (⟨l.toArray⟩ : ByteArray) = bc l := rfl

/-- Bytes of one's own, in a block that is no older than B. -/
def Ow (B : Nat) (l : List UInt8) (v : Value) (w : World) : Prop := w.ownsRow B 5 1 v l.length (bc l)
theorem Ow.nil (B : Nat) (w : World) : Ow B [] (.slice none 0 0) w := World.ownsRow_nil _ _ _ _
theorem Ow.mono {A B : Nat} {l : List UInt8} {v : Value} {w : World} (h : Ow B l v w) (hAB : A ≤ B) : Ow A l v w := by
  refine ⟨h.1, ?_⟩
  rcases h.2 with h0 | ⟨g, cap, cur, hv, hb, h1⟩
  · exact .inl h0
  · exact .inr ⟨g, cap, cur, hv, by omega, h1⟩
theorem Ow.from_ {B : Nat} {l : List UInt8} {v : Value} {w W : World} (h : Ow B l v w) (hb : Below w.heap.size w W) : Ow B l v W := by
  refine ⟨h.1, ?_⟩
  rcases h.2 with h0 | ⟨g, cap, cur, hv, hB, hg, h1⟩
  · exact .inl h0
  · exact .inr ⟨g, cap, cur, hv, hB, (hb.block g (Array.getElem?_eq_some_iff.1 hg).1).trans hg, h1⟩

/-- What an append takes its bytes from. -/
def Sr (l : List UInt8) (v : Value) (w : World) : Prop := (v = .slice none 0 0 ∧ l = []) ∨ ∃ ad c, v = .slice (some ad) l.length c ∧ ∀ j u, (bc l)[j]? = some u → w.cell? (ad.add j) = some u
theorem Ow.sr {B : Nat} {l : List UInt8} {v : Value} {w : World} (h : Ow B l v w) : Sr l v w := by
  have h' := h
  rcases h.2 with ⟨h0, h1⟩ | ⟨g, cap, cur, rfl, hB, hg, h1⟩
  · exact .inl ⟨h0, List.eq_nil_of_length_eq_zero h1⟩
  · exact .inr ⟨⟨g, 0, none⟩, cap, rfl, World.ownsRow.cells h' (g := g) rfl⟩
theorem Sr.from_ {l : List UInt8} {v : Value} {w W : World} (h : Sr l v w) (hb : Below w.heap.size w W) : Sr l v W := by
  rcases h with h | ⟨ad, c, rfl, hc⟩
  · exact .inl h
  · exact .inr ⟨ad, c, rfl, fun j u hj => (hb.cell (World.block_lt_of_cell? _ _ (hc j u hj))).trans (hc j u hj)⟩
theorem Ow.lit (w : World) (c : UInt8) : Ow w.heap.size [c] (.slice (some ⟨w.heap.size, 0, none⟩) 1 1) (w.alloc (.cells #[.int .u8 (c.toNat : Int)] 5)) :=
  ⟨rfl, .inr ⟨w.heap.size, 1, #[.int .u8 (c.toNat : Int)], rfl, Nat.le_refl _, heap_alloc_new w _, Nat.le_refl _, by decide, rfl, rfl⟩⟩
/-- The slice itself. -/
theorem Ow.len {B : Nat} {l : List UInt8} {v : Value} {w : World} (h : Ow B l v w) : ∃ a cap, v = .slice a l.length cap := by
  rcases h.2 with ⟨h0, h1⟩ | ⟨g, cap, cur, rfl, hB, hg, h1⟩
  · exact ⟨none, 0, by rw [h0, h1]⟩
  · exact ⟨_, _, rfl⟩
theorem Ow.block {B : Nat} {l : List UInt8} {v : Value} {w : World} (h : Ow B l v w) : ∀ k, v.ownBlock = some k → B ≤ k := fun k e => (World.ownsRow.lt h k e).1

theorem grown_refl (w : World) (v : Option Nat) : w.grownBy w v := ⟨rfl, rfl, rfl, Nat.le_refl _, fun _ _ _ => rfl⟩

section
variable {ops : Array Oper} {rest : List Oper} {o : Oper} {a : Act} {Q : Exit → Act → World → Prop}
theorem wpList_append_ow (w : World) (hgd : o.guard = none) (s x : Operand) (ho : o.op = .call { callee := .builtin .append, args := #[s, x], argTypes := #[76, 76] })
    (B : Nat) (l m : List UInt8) (v u : Value) (hs : a.eval s = v) (hx : a.eval x = u) (hown : Ow B l v w) (hsrc : Sr m u w) (hn : l.length + m.length ≤ 140737488355328) (hB : B ≤ w.heap.size)
    (h : ∀ v' w', Ow B (l ++ m) v' w' → Below B w w' → w.grownBy w' v.ownBlock → wpList Tryz.prog ops Q rest (a.put o.dst v') w') : wpList Tryz.prog ops Q (o :: rest) a w := by
  obtain ⟨i0, hi, hz0, hz1, hz2⟩ := info_parts Tryz.ofU8
  rcases hsrc with ⟨rfl, rfl⟩ | ⟨ad, c, rfl, hc⟩
  · refine wpList_append_own_none hgd s x 76 ho B 5 i0 1 Tryz.underlying76 hi v l.length (bc l) hs hown hx ?_
    have := h v w (by rwa [List.append_nil]) (Below.refl _ _) (grown_refl _ _)
    exact this
  · refine wpList_append_own w hgd s x 76 ho B 5 i0 (.int .u8 0) 1 1 Tryz.underlying76 hi hz0 hz1 hz2 rfl (by decide) v l.length (bc l) hs hown ad m.length c (bc m) hx (by rw [bc_length, Nat.mul_one]) hc (bc_one m) (by unfold maxLen; omega) (by omega) hB ?_
    intro v' w' h1 h2 _
    exact h v' w' (by unfold Ow; rw [bc_append, List.length_append]; exact h1) ((Below.refl _ _).grown h2 hB hown.block) h2
theorem wpList_append_ow_str (w : World) (hgd : o.guard = none) (s x : Operand) (ho : o.op = .call { callee := .builtin .append, args := #[s, x], argTypes := #[76, 9] })
    (B : Nat) (l m : List UInt8) (v : Value) (hs : a.eval s = v) (hx : a.eval x = .string ⟨m.toArray⟩) (hown : Ow B l v w) (hn : l.length + m.length ≤ 140737488355328) (hB : B ≤ w.heap.size)
    (h : ∀ v' w', Ow B (l ++ m) v' w' → Below B w w' → wpList Tryz.prog ops Q rest (a.put o.dst v') w') : wpList Tryz.prog ops Q (o :: rest) a w := by
  obtain ⟨i0, hi, hz0, hz1, hz2⟩ := info_parts Tryz.ofU8
  have hml : (⟨m.toArray⟩ : ByteArray).size = m.length := by simp [ByteArray.size]
  refine wpList_append_own_string w hgd s x 76 9 ho B 5 i0 Tryz.underlying76 Tryz.underlying9 hi hz0 hz1 hz2 v l.length (bc l) hs hown ⟨m.toArray⟩ hx (by rw [hml]; unfold maxLen; omega) (by rw [hml]; omega) hB ?_
  intro v' w' h1 h2 _
  rw [hml, bc_str] at h1
  exact h v' w' (by unfold Ow; rw [bc_append, List.length_append]; exact h1) ((Below.refl _ _).grown h2 hB hown.block)
end

theorem Seal.sr {w w2 : World} {l : List UInt8} {cap : Nat} {cur : Array Value} (h : Seal w w2 5 ⟨l.toArray⟩ cap cur) : Sr l (.slice (some ⟨w.heap.size, 0, none⟩) l.length cap) w2 := by
  refine .inr ⟨_, _, rfl, fun j u hj => ?_⟩
  have hadd : (⟨w.heap.size, 0, none⟩ : Addr).add j = ⟨w.heap.size, j, none⟩ := by unfold Addr.add; split <;> simp_all
  rw [hadd, cell_of_row w2 _ j cur 5 _ h.row]
  have ht : cur.toList.take l.length = bc l := by
    have := h.take
    rwa [bc_str, show (⟨l.toArray⟩ : ByteArray).size = l.length by simp [ByteArray.size]] at this
  rw [← ht, List.getElem?_take] at hj
  split at hj
  · simpa using hj
  · cases hj
end Go.Proofs.YtihiacbhdcahkaaGreatDoor
namespace Go.Proofs.YtihiacbhdcahkaaGreatDoor
open Go Go.RowKit

/-- A region of a function's text, by its number. -/
def regAt (k : Nat) : Code → Option Code
  | .region id ops d => if id = k then some (.region id ops d) else none
  | .seq a b => (regAt k a).or (regAt k b)
  | .cond _ a b => (regAt k a).or (regAt k b)
  | .block _ b => regAt k b
  | .loop b => regAt k b
  | .rangeFunc _ _ _ b => regAt k b
  | .scope b => regAt k b
  | _ => none

/-- Left off its end, and so. -/
def nrm (R : Act → World → Prop) : Exit → Act → World → Prop
  | .normal, a, w => R a w
  | _, _, _ => False

theorem wpIn_mono' {F : Fence} {n : Nat} {P : Program} {c : Code} {R : Act → World → Prop} {Q : Exit → Act → World → Prop} {a : Act} {w : World} (h : c.wpIn F n P (nrm R) a w) (hQ : ∀ b u, R b u → Q .normal b u) : c.wpIn F n P Q a w :=
  wpIn_mono h (fun e b u h => by cases e <;> first | exact hQ _ _ h | exact h.elim)

/-! A region that draws its order, in a round: as everywhere, if it defers nothing. -/
section
variable {P : Program} {ops : Array Oper} {Q : Exit → Act → World → Prop} {md : Region.Mode}

def noDefer (ops : Array Oper) : Bool := ops.all fun o => match o.op with | .defer _ => false | _ => true

theorem rows_wide {n : Nat} {row : String} {args : Array Value} {w : World} {R : Value → World → Prop} (h : Rows P row args w R) : RowsIn Fence.wide n P row args w R :=
  fun c cs _ => let ⟨v, w', r, s⟩ := h c cs; ⟨v, w', r, stepsIn_wide.2 s⟩

theorem wp_round {l n : Nat} {o : Oper} {a : Act} {w : World} {K K' : Act → World → Prop} (ho : ∀ c, o.op ≠ .defer c) (hK : ∀ a w, K a w → K' a w) (h : o.wp P a w K Q) : o.wpIn (Fence.wide.inRound l) n P a w K' Q := by
  unfold Oper.wpIn
  refine ⟨fun _ _ => trivial, ?_⟩
  rw [show (Fence.wide.inRound l).round = some l from rfl, Oper.semAt_some l _ _ ho]
  unfold Oper.wp at h
  generalize (execOp a.eval o).run P w = r at h
  cases r with
  | ok x w' =>
    cases x <;> simp only [Oper.upon, Oper.uponIn] at h ⊢ <;>
      first
        | exact hK _ _ h
        | exact ⟨fun h => (by cases h), (callsIn_wide.2 h : CallsIn Fence.wide _ P _ _ _ _).mono (fun e w'' he => by cases e <;> first | exact hK _ _ he | exact he)⟩
        | exact ⟨fun h => (by cases h), (rows_wide h).mono (fun _ _ he => hK _ _ he)⟩
        | exact h
  | halt x w' => cases x <;> simp only [Oper.upon, Oper.uponIn] at h ⊢ <;> exact h

theorem nrm_out {R : Act → World → Prop} : ¬ LetsOut (nrm R) := fun ⟨_, _, h⟩ => h
theorem noDefer_at {i : Nat} {o : Oper} (hd : noDefer ops = true) (hi : ops[i]? = some o) : ∀ c, o.op ≠ .defer c := by
  intro c hc
  have := (Array.all_eq_true_iff_forall_mem.1 hd) o (Array.mem_of_getElem? hi)
  rw [hc] at this
  cases this
theorem wpAny_round {l n : Nat} {R : Act → World → Prop} (hd : noDefer ops = true) : ∀ (fuel : Nat) (listed : Array Bool) (a : Act) (w : World), wpAny P md ops (nrm R) fuel listed a w → wpAnyIn (Fence.wide.inRound l) n P md ops (nrm R) fuel listed a w
  | 0, _, _, _, h => h
  | fuel + 1, listed, a, w, h => by
    refine ⟨h.1, fun i hi => ?_⟩
    have h1 := h.2 i hi
    unfold wpOp at h1
    unfold wpOpIn
    cases ho : ops[i]? with
    | none => simp only [ho] at h1 ⊢; exact wpAny_round hd fuel _ _ _ h1
    | some o =>
      simp only [ho] at h1 ⊢
      by_cases hw : Region.wanted o (yielded ops a.tmps) = true
      · simp only [hw, if_true] at h1 ⊢
        rcases h1 with h1 | ⟨_, h1⟩
        · exact wp_round (noDefer_at hd ho) (fun a w => wpAny_round hd fuel _ a w) h1
        · exact absurd h1 nrm_out
      · simp only [hw, if_false, Bool.false_eq_true] at h1 ⊢
        exact ⟨fun _ _ => trivial, wpAny_round hd fuel _ _ _ h1⟩
end
end Go.Proofs.YtihiacbhdcahkaaGreatDoor
