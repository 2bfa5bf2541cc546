/- Bytes that a call owns: what is appended to them. -/
import Derived.Test.YtkhhjgnpfindiaaDoorC5
import Derived.Lib.ConvBytes
import Derived.Lib.AppendStr
import Derived.Laws.AppendOwnNone
import Derived.Laws.OwnMore
import Derived.Laws.CopyRow
namespace Go.Proofs.YtkhhjgnpfindiaaDoor
open Go Go.RowKit Go.Lib

/-- What a conversion of a string to bytes leaves. -/
structure Seal (w w' : World) (e : TypeId) (b : ByteArray) (cap : Nat) (cur : Array Value) : Prop where
  row : w'.heap[w.heap.size]? = some (.cells cur e (cur.size, cur.size + 1))
  size : cur.size = cap
  len : b.size ≤ cap
  max : cap ≤ maxLen
  take : cur.toList.take b.size = strCells b
  low : Below w.heap.size w w'
  new : w'.heap.size = w.heap.size + 1

theorem seal_is (w : World) (e : TypeId) (b : ByteArray) (hb : b.size ≤ maxLen) : Seal w (bytesWorld w e b) e b (grownCap w b.size 0 e) (bytesCells w e b) := by
  have hge := grownCap_ge w b.size 0 e
  have hcm := grownCap_le_maxLen w b.size 0 e hb
  have hsz : (bytesCells w e b).size = grownCap w b.size 0 e := by
    have : b.data.size = b.size := rfl
    simp [bytesCells, this]
    omega
  refine ⟨bytesWorld_at_new w e b, hsz, hge, hcm, ?_, ⟨rfl, rfl, rfl, by rw [bytesWorld_size]; omega, fun k hk => bytesWorld_at_old w e b k hk⟩, bytesWorld_size w e b⟩
  have hl : b.size = (b.data.toList.map fun x : UInt8 => Value.int .u8 x.toNat).length := by
    rw [List.length_map, Array.length_toList]; rfl
  unfold bytesCells strCells
  rw [Array.toList_append, Array.toList_map, hl, List.take_left]


theorem wpList_seal {P : Program} {ops : Array Oper} {rest : List Oper} {o : Oper} {a : Act} {Q : Exit → Act → World → Prop} (w : World) (hgd : o.guard = none) (src dst e : TypeId) (x : Operand)
    (ho : o.op = .convert src dst x) (b : ByteArray) (hx : a.eval x = .string b) (hs : P.underlying src = some .string) (hd : P.underlying dst = some (.slice e)) (he : P.underlying e = some (.int .u8)) (hb : b.size ≤ maxLen)
    (h : ∀ cap cur w', Seal w w' e b cap cur → wpList P ops Q rest (a.put o.dst (.slice (some ⟨w.heap.size, 0, none⟩) b.size cap)) w') : wpList P ops Q (o :: rest) a w := by
  refine wpList_plain hgd fun K hK => ?_
  have hr := Go.Lib.run_convert_string_bytes (P := P) w src dst e b hs hd he
  unfold Oper.wp execOp
  simp only [ho, hx, Sem.run_bind, Sem.run_pure]
  rw [hr]
  exact hK _ _ (h _ _ _ (seal_is w e b hb))

/-- The cells of bytes. -/
def bc (l : List UInt8) : List Value := l.map fun (c : UInt8) => Value.int .u8 (c.toNat : Int)
theorem bc_length (l : List UInt8) : (bc l).length = l.length := by simp [bc]
theorem bc_append (l m : List UInt8) : bc (l ++ m) = bc l ++ bc m := by simp [bc]
theorem bc_one (l : List UInt8) : ∀ u ∈ bc l, u.oneCell' = true := fun u hu => by
  obtain ⟨_, _, rfl⟩ := List.mem_map.1 hu
  rfl
theorem bc_str (l : List UInt8) : strCells (⟨l.toArray⟩ : ByteArray) = bc l := rfl

/-- Bytes of one's own, in a block that is no older than B. -/
def Ow (B : Nat) (l : List UInt8) (v : Value) (w : World) : Prop := w.ownsRow B 5 1 v l.length (bc l)
theorem Ow.nil (B : Nat) (w : World) : Ow B [] (.slice none 0 0) w := World.ownsRow_nil _ _ _ _
theorem Ow.mono {A B : Nat} {l : List UInt8} {v : Value} {w : World} (h : Ow B l v w) (hAB : A ≤ B) : Ow A l v w := by
  refine ⟨h.1, ?_⟩
  rcases h.2 with h0 | ⟨g, cap, cur, hv, hb, h1⟩
  · exact .inl h0
  · exact .inr ⟨g, cap, cur, hv, by omega, h1⟩
theorem Ow.from_ {B : Nat} {l : List UInt8} {v : Value} {w W : World} (h : Ow B l v w) (hb : Below w.heap.size w W) : Ow B l v W := by
  refine ⟨h.1, ?_⟩
  rcases h.2 with h0 | ⟨g, cap, cur, hv, hB, hg, h1⟩
  · exact .inl h0
  · exact .inr ⟨g, cap, cur, hv, hB, (hb.block g (Array.getElem?_eq_some_iff.1 hg).1).trans hg, h1⟩

/-- What an append takes its bytes from. -/
def Sr (l : List UInt8) (v : Value) (w : World) : Prop := (v = .slice none 0 0 ∧ l = []) ∨ ∃ ad c, v = .slice (some ad) l.length c ∧ ∀ j u, (bc l)[j]? = some u → w.cell? (ad.add j) = some u
theorem Ow.sr {B : Nat} {l : List UInt8} {v : Value} {w : World} (h : Ow B l v w) : Sr l v w := by
  have h' := h
  rcases h.2 with ⟨h0, h1⟩ | ⟨g, cap, cur, rfl, hB, hg, h1⟩
  · exact .inl ⟨h0, List.eq_nil_of_length_eq_zero h1⟩
  · exact .inr ⟨⟨g, 0, none⟩, cap, rfl, World.ownsRow.cells h' (g := g) rfl⟩
theorem Sr.from_ {l : List UInt8} {v : Value} {w W : World} (h : Sr l v w) (hb : Below w.heap.size w W) : Sr l v W := by
  rcases h with h | ⟨ad, c, rfl, hc⟩
  · exact .inl h
  · exact .inr ⟨ad, c, rfl, fun j u hj => (hb.cell (World.block_lt_of_cell? _ _ (hc j u hj))).trans (hc j u hj)⟩
theorem Ow.lit (w : World) (c : UInt8) : Ow w.heap.size [c] (.slice (some ⟨w.heap.size, 0, none⟩) 1 1) (w.alloc (.cells #[.int .u8 (c.toNat : Int)] 5)) :=
  ⟨rfl, .inr ⟨w.heap.size, 1, #[.int .u8 (c.toNat : Int)], rfl, Nat.le_refl _, heap_alloc_new w _, Nat.le_refl _, by decide, rfl, rfl⟩⟩
/-- The slice itself. -/
theorem Ow.len {B : Nat} {l : List UInt8} {v : Value} {w : World} (h : Ow B l v w) : ∃ a cap, v = .slice a l.length cap := by
  rcases h.2 with ⟨h0, h1⟩ | ⟨g, cap, cur, rfl, hB, hg, h1⟩
  · exact ⟨none, 0, by rw [h0, h1]⟩
  · exact ⟨_, _, rfl⟩
theorem Ow.block {B : Nat} {l : List UInt8} {v : Value} {w : World} (h : Ow B l v w) : ∀ k, v.ownBlock = some k → B ≤ k := fun k e => (World.ownsRow.lt h k e).1

theorem grown_refl (w : World) (v : Option Nat) : w.grownBy w v := ⟨rfl, rfl, rfl, Nat.le_refl _, fun _ _ _ => rfl⟩

section
variable {ops : Array Oper} {rest : List Oper} {o : Oper} {a : Act} {Q : Exit → Act → World → Prop}
theorem wpList_append_ow (w : World) (hgd : o.guard = none) (s x : Operand) (ho : o.op = .call { callee := .builtin .append, args := #[s, x], argTypes := #[35, 35] })
    (B : Nat) (l m : List UInt8) (v u : Value) (hs : a.eval s = v) (hx : a.eval x = u) (hown : Ow B l v w) (hsrc : Sr m u w) (hn : l.length + m.length ≤ 140737488355328) (hB : B ≤ w.heap.size)
    (h : ∀ v' w', Ow B (l ++ m) v' w' → Below B w w' → w.grownBy w' v.ownBlock → wpList Tryd.prog ops Q rest (a.put o.dst v') w') : wpList Tryd.prog ops Q (o :: rest) a w := by
  obtain ⟨i0, hi, hz0, hz1, hz2⟩ := info_parts Tryd.infoU8
  rcases hsrc with ⟨rfl, rfl⟩ | ⟨ad, c, rfl, hc⟩
  · refine wpList_append_own_none hgd s x 35 ho B 5 i0 1 Tryd.underlying35 hi v l.length (bc l) hs hown hx ?_
    have := h v w (by rwa [List.append_nil]) (Below.refl _ _) (grown_refl _ _)
    exact this
  · refine wpList_append_own w hgd s x 35 ho B 5 i0 (.int .u8 0) 1 1 Tryd.underlying35 hi hz0 hz1 hz2 rfl (by decide) v l.length (bc l) hs hown ad m.length c (bc m) hx (by rw [bc_length, Nat.mul_one]) hc (bc_one m) (by unfold maxLen; omega) (by omega) hB ?_
    intro v' w' h1 h2 _
    exact h v' w' (by unfold Ow; rw [bc_append, List.length_append]; exact h1) ((Below.refl _ _).grown h2 hB hown.block) h2
theorem wpList_append_ow_str (w : World) (hgd : o.guard = none) (s x : Operand) (ho : o.op = .call { callee := .builtin .append, args := #[s, x], argTypes := #[35, 9] })
    (B : Nat) (l m : List UInt8) (v : Value) (hs : a.eval s = v) (hx : a.eval x = .string ⟨m.toArray⟩) (hown : Ow B l v w) (hn : l.length + m.length ≤ 140737488355328) (hB : B ≤ w.heap.size)
    (h : ∀ v' w', Ow B (l ++ m) v' w' → Below B w w' → wpList Tryd.prog ops Q rest (a.put o.dst v') w') : wpList Tryd.prog ops Q (o :: rest) a w := by
  obtain ⟨i0, hi, hz0, hz1, hz2⟩ := info_parts Tryd.infoU8
  have hml : (⟨m.toArray⟩ : ByteArray).size = m.length := by simp [ByteArray.size]
  refine wpList_append_own_string w hgd s x 35 9 ho B 5 i0 Tryd.underlying35 Tryd.underlying9 hi hz0 hz1 hz2 v l.length (bc l) hs hown ⟨m.toArray⟩ hx (by rw [hml]; unfold maxLen; omega) (by rw [hml]; omega) hB ?_
  intro v' w' h1 h2 _
  rw [hml, bc_str] at h1
  exact h v' w' (by unfold Ow; rw [bc_append, List.length_append]; exact h1) ((Below.refl _ _).grown h2 hB hown.block)
end

theorem Seal.sr {w w2 : World} {l : List UInt8} {cap : Nat} {cur : Array Value} (h : Seal w w2 5 ⟨l.toArray⟩ cap cur) : Sr l (.slice (some ⟨w.heap.size, 0, none⟩) l.length cap) w2 := by
  refine .inr ⟨_, _, rfl, fun j u hj => ?_⟩
  have hadd : (⟨w.heap.size, 0, none⟩ : Addr).add j = ⟨w.heap.size, j, none⟩ := by unfold Addr.add; split <;> simp_all
  rw [hadd, cell_of_row w2 _ j cur 5 _ h.row]
  have ht : cur.toList.take l.length = bc l := by
    have := h.take
    rwa [bc_str, show (⟨l.toArray⟩ : ByteArray).size = l.length by simp [ByteArray.size]] at this
  rw [← ht, List.getElem?_take] at hj
  split at hj
  · simpa using hj
  · cases hj

set_option maxRecDepth 100000 in
set_option maxHeartbeats 4000000 in
theorem headOf_any (k : Int) (c : UInt8) (l : List UInt8) (u : Value) (w : World) (hk : k = (c.toNat : Nat)) (hl : l.length ≤ 8) (hs : Sr l u w) :
    Calls Tryd.prog 44 #[.int .i64 k, u] w fun e w' => (∃ v, e = .returned v ∧ Ow w.heap.size (c :: l) v w') ∧ Below w.heap.size w w' := by
  have hw : IntKind.u8.wrap k = ((c.toNat : Nat) : Int) := wrap_u8 hk
  clear hk
  go_enter Tryd.func44, Tryd.ntmps44
  go_wp2_with (at_builtin; refine wpList_append_ow _ rfl _ _ rfl w.heap.size [c] l _ u rfl rfl (Ow.lit w c) (hs.from_ ((Below.refl _ _).alloc (Nat.le_refl _) _)) (by simp; omega) (by simp) ?_; intro v w1 ho1 hb1 _)
  go_ret
  exact ⟨⟨v, rfl, ho1⟩, ((Below.refl _ _).alloc (Nat.le_refl _) _).trans hb1⟩

set_option maxRecDepth 100000 in
set_option maxHeartbeats 4000000 in
theorem head_any (n p : Nat) (w : World) (hn : n < 4611686018427387904) (hp : p ≤ 192) :
    Calls Tryd.prog 28 #[.int .i64 (n : Nat), .int .i64 (p : Nat)] w fun e w' => (∃ v, e = .returned v ∧ Ow w.heap.size (M.hdL n p) v w') ∧ Below w.heap.size w w' := by
  by_cases h56 : n < 56
  · obtain ⟨c, hc⟩ : ∃ c : UInt8, c = UInt8.ofNat (p + n) := ⟨_, rfl⟩
    have e : M.hdL n p = [c] := by unfold M.hdL; rw [if_pos h56, hc]
    have hcn : c.toNat = p + n := by rw [hc]; exact ofNat_at (by omega)
    rw [e]
    clear hc e
    go_enter Tryd.func28, Tryd.ntmps28
    go_wp2_with fail
    refine (headOf_any _ c [] _ w (by omega) (by simp) (.inl ⟨rfl, rfl⟩)).mono ?_
    rintro e w1 ⟨⟨v, rfl, ho⟩, hb⟩
    go_wp2_with fail
    go_ret
    exact ⟨⟨v, rfl, ho⟩, hb⟩
  · have e : M.hdL n p = UInt8.ofNat (p + 55 + (M.ben n).length) :: M.ben n := by unfold M.hdL; rw [if_neg h56]
    have hbl := M.ben_le (n := n) (by omega)
    have hbe : Hid (∀ w, Calls Tryd.prog 45 #[.int .u64 (n : Nat)] w fun e w' => e = .returned (.string ⟨(M.ben n).toArray⟩) ∧ Below w.heap.size w w') := fun w => nbe_any n w (by omega)
    rw [e]
    generalize M.ben n = bn at *
    obtain ⟨c, hc⟩ : ∃ c : UInt8, c = UInt8.ofNat (p + 55 + bn.length) := ⟨_, rfl⟩
    rw [← hc]
    have hcn : c.toNat = p + 55 + bn.length := by rw [hc]; exact ofNat_at (by omega)
    clear e hc
    go_enter Tryd.func28, Tryd.ntmps28
    go_wp2_with fail
    refine (hbe.out _).mono ?_
    rintro e w1 ⟨rfl, hb1⟩
    go_wp2_with (refine wpList_seal _ rfl _ _ 5 _ rfl ⟨bn.toArray⟩ rfl Tryd.underlying9 Tryd.underlying35 Tryd.underlying5 (by simp [ByteArray.size]; unfold maxLen; omega) ?_; intro cap cur w2 hSeal)
    have h1 := hb1.size
    have h2 := hSeal.low.size
    have hb2 : Below w.heap.size w w2 := hb1.trans (hSeal.low.mono h1)
    refine (headOf_any _ c bn _ w2 (by omega) hbl hSeal.sr).mono ?_
    rintro e w3 ⟨⟨v, rfl, ho⟩, hb⟩
    go_wp2_with fail
    go_ret
    exact ⟨⟨v, rfl, ho.mono (by omega)⟩, hb2.trans (hb.mono (by omega))⟩

/-- What is ahead of bytes. -/
def hdB (d : List UInt8) : List UInt8 := if d.length = 1 ∧ (d.headD 0).toNat < 128 then [] else M.hdL d.length 128
theorem bytes_hdB (d : List UInt8) (xs : List M.It) : M.bytesI (.mk false d xs) = hdB d ++ d := by
  rw [M.bytesI]
  unfold hdB
  by_cases h : d.length = 1 ∧ (d.headD 0).toNat < 128
  · rw [if_pos h, if_pos h, List.nil_append]
  · rw [if_neg h, if_neg h]
theorem hdB_9 {d : List UInt8} (h : d.length < 4611686018427387904) : (hdB d).length ≤ 9 := by
  unfold hdB
  split
  · simp
  · exact (M.hdL_9 (by omega)).2

set_option maxRecDepth 100000 in
set_option maxHeartbeats 4000000 in
theorem headOfBytes_any (d : List UInt8) (w : World) (hn : d.length < 4611686018427387904) :
    Calls Tryd.prog 25 #[.string ⟨d.toArray⟩] w fun e w' => (∃ v, e = .returned v ∧ Ow w.heap.size (hdB d) v w') ∧ Below w.heap.size w w' := by
  by_cases h1 : d.length = 1
  · obtain ⟨c, rfl⟩ : ∃ c, d = [c] := by match d, h1 with | [c], _ => exact ⟨c, rfl⟩
    have hx : (⟨#[c]⟩ : ByteArray)[0]'(Nat.one_pos) = c := rfl
    by_cases hc : c.toNat < 128
    · have e : hdB [c] = [] := by unfold hdB; simp [hc]
      rw [e]
      go_enter Tryd.func25, Tryd.ntmps25
      go_wp2_with fail
      go_ret
      exact ⟨⟨_, rfl, Ow.nil _ _⟩, Below.refl _ _⟩
    · have e : hdB [c] = M.hdL 1 128 := by unfold hdB; simp [hc]
      rw [e]
      have hh := Lib.hid (head_any 1 128 w (by omega) (by omega))
      generalize M.hdL 1 128 = hd at *
      clear e
      go_enter Tryd.func25, Tryd.ntmps25
      go_wp2_with fail
      refine hh.out.mono ?_
      rintro e w1 ⟨⟨v, rfl, ho⟩, hb⟩
      go_wp2_with fail
      go_ret
      exact ⟨⟨v, rfl, ho⟩, hb⟩
  · have e : hdB d = M.hdL d.length 128 := by unfold hdB; simp [h1]
    rw [e]
    have hh := Lib.hid (head_any d.length 128 w (by omega) (by omega))
    generalize M.hdL d.length 128 = hd at *
    clear e
    go_enter Tryd.func25, Tryd.ntmps25
    go_wp2_with fail
    refine hh.out.mono ?_
    rintro e w1 ⟨⟨v, rfl, ho⟩, hb⟩
    go_wp2_with fail
    go_ret
    exact ⟨⟨v, rfl, ho⟩, hb⟩
end Go.Proofs.YtkhhjgnpfindiaaDoor
