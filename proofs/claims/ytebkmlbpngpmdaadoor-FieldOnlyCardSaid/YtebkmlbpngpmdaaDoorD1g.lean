/- Bytes that a call owns: heads and what they lead. -/
import Derived.Test.YtebkmlbpngpmdaaDoorD0g
import Derived.Test.YtebkmlbpngpmdaaDoorB1g
namespace Go.Proofs.YtebkmlbpngpmdaaDoor
open Go Go.RowKit Go.Lib

set_option maxRecDepth 100000 in
set_option maxHeartbeats 4000000 in
theorem headOf_any (k : Int) (c : UInt8) (l : List UInt8) (u : Value) (w : World) (hk : k = (c.toNat : Nat)) (hl : l.length ≤ 8) (hs : Sr l u w) :
    Calls Tryd.prog 88 #[.int .i64 k, u] w fun e w' => (∃ v, e = .returned v ∧ Ow w.heap.size (c :: l) v w') ∧ Below w.heap.size w w' := by
  have hw : IntKind.u8.wrap k = ((c.toNat : Nat) : Int) := wrap_u8 hk
  clear hk
  go_enter Tryd.func88, Tryd.ntmps88
  go_wp2_with (at_builtin; refine wpList_append_ow _ rfl _ _ rfl w.heap.size [c] l _ u rfl rfl (Ow.lit w c) (hs.from_ ((Below.refl _ _).alloc (Nat.le_refl _) _)) (by simp; omega) (by simp) ?_; intro v w1 ho1 hb1 _)
  go_ret
  exact ⟨⟨v, rfl, ho1⟩, ((Below.refl _ _).alloc (Nat.le_refl _) _).trans hb1⟩

set_option maxRecDepth 100000 in
set_option maxHeartbeats 4000000 in
theorem head_any (n p : Nat) (w : World) (hn : n < 4611686018427387904) (hp : p ≤ 192) :
    Calls Tryd.prog 74 #[.int .i64 (n : Nat), .int .i64 (p : Nat)] w fun e w' => (∃ v, e = .returned v ∧ Ow w.heap.size (M.hdL n p) v w') ∧ Below w.heap.size w w' := by
  by_cases h56 : n < 56
  · obtain ⟨c, hc⟩ : ∃ c : UInt8, c = UInt8.ofNat (p + n) := ⟨_, rfl⟩
    have e : M.hdL n p = [c] := by unfold M.hdL; rw [if_pos h56, hc]
    have hcn : c.toNat = p + n := by rw [hc]; exact ofNat_at (by omega)
    rw [e]
    clear hc e
    go_enter Tryd.func74, Tryd.ntmps74
    go_wp2_with fail
    refine (headOf_any _ c [] _ w (by omega) (by simp) (.inl ⟨rfl, rfl⟩)).mono ?_
    rintro e w1 ⟨⟨v, rfl, ho⟩, hb⟩
    go_wp2_with fail
    go_ret
    exact ⟨⟨v, rfl, ho⟩, hb⟩
  · have e : M.hdL n p = UInt8.ofNat (p + 55 + (M.ben n).length) :: M.ben n := by unfold M.hdL; rw [if_neg h56]
    have hbl := M.ben_le (n := n) (by omega)
    have hbe : Hid (∀ w, Calls Tryd.prog 31 #[.int .u64 (n : Nat)] w fun e w' => e = .returned (.string ⟨(M.ben n).toArray⟩) ∧ Below w.heap.size w w') := fun w => nbe_any n w (by omega)
    rw [e]
    generalize M.ben n = bn at *
    obtain ⟨c, hc⟩ : ∃ c : UInt8, c = UInt8.ofNat (p + 55 + bn.length) := ⟨_, rfl⟩
    rw [← hc]
    have hcn : c.toNat = p + 55 + bn.length := by rw [hc]; exact ofNat_at (by omega)
    clear e hc
    go_enter Tryd.func74, Tryd.ntmps74
    go_wp2_with fail
    refine (hbe.out _).mono ?_
    rintro e w1 ⟨rfl, hb1⟩
    go_wp2_with (refine wpList_seal _ rfl _ _ 5 _ rfl ⟨bn.toArray⟩ rfl Tryd.underlying9 Tryd.underlying59 Tryd.underlying5 (by simp [ByteArray.size]; unfold maxLen; omega) ?_; intro cap cur w2 hSeal)
    have h1 := hb1.size
    have h2 := hSeal.low.size
    have hb2 : Below w.heap.size w w2 := hb1.trans (hSeal.low.mono h1)
    refine (headOf_any _ c bn _ w2 (by omega) hbl hSeal.sr).mono ?_
    rintro e w3 ⟨⟨v, rfl, ho⟩, hb⟩
    go_wp2_with fail
    go_ret
    exact ⟨⟨v, rfl, ho.mono (by omega)⟩, hb2.trans (hb.mono (by omega))⟩

/-- What is ahead of bytes. -/
def hdB (d : List UInt8) : List UInt8 := if d.length = 1 ∧ (d.headD 0).toNat < 128 then [] else M.hdL d.length 128
theorem bytes_hdB (d : List UInt8) (xs : List M.It) : M.bytesI (.mk false d xs) = hdB d ++ d := by
  rw [M.bytesI]
  unfold hdB
  by_cases h : d.length = 1 ∧ (d.headD 0).toNat < 128
  · rw [if_pos h, if_pos h, List.nil_append]
  · rw [if_neg h, if_neg h]
theorem hdB_9 {d : List UInt8} (h : d.length < 4611686018427387904) : (hdB d).length ≤ 9 := by
  unfold hdB
  split
  · simp
  · exact (M.hdL_9 (by omega)).2

set_option maxRecDepth 100000 in
set_option maxHeartbeats 4000000 in
theorem headOfBytes_any (d : List UInt8) (w : World) (hn : d.length < 4611686018427387904) :
    Calls Tryd.prog 71 #[.string ⟨d.toArray⟩] w fun e w' => (∃ v, e = .returned v ∧ Ow w.heap.size (hdB d) v w') ∧ Below w.heap.size w w' := by
  by_cases h1 : d.length = 1
  · obtain ⟨c, rfl⟩ : ∃ c, d = [c] := by match d, h1 with | [c], _ => exact ⟨c, rfl⟩
    have hx : (⟨#[c]⟩ : ByteArray)[0]'(Nat.one_pos) = c := rfl
    by_cases hc : c.toNat < 128
    · have e : hdB [c] = [] := by unfold hdB; simp [hc]
      rw [e]
      go_enter Tryd.func71, Tryd.ntmps71
      go_wp2_with fail
      go_ret
      exact ⟨⟨_, rfl, Ow.nil _ _⟩, Below.refl _ _⟩
    · have e : hdB [c] = M.hdL 1 128 := by unfold hdB; simp [hc]
      rw [e]
      have hh := Lib.hid (head_any 1 128 w (by omega) (by omega))
      generalize M.hdL 1 128 = hd at *
      clear e
      go_enter Tryd.func71, Tryd.ntmps71
      go_wp2_with fail
      refine hh.out.mono ?_
      rintro e w1 ⟨⟨v, rfl, ho⟩, hb⟩
      go_wp2_with fail
      go_ret
      exact ⟨⟨v, rfl, ho⟩, hb⟩
  · have e : hdB d = M.hdL d.length 128 := by unfold hdB; simp [h1]
    rw [e]
    have hh := Lib.hid (head_any d.length 128 w (by omega) (by omega))
    generalize M.hdL d.length 128 = hd at *
    clear e
    go_enter Tryd.func71, Tryd.ntmps71
    go_wp2_with fail
    refine hh.out.mono ?_
    rintro e w1 ⟨⟨v, rfl, ho⟩, hb⟩
    go_wp2_with fail
    go_ret
    exact ⟨⟨v, rfl, ho⟩, hb⟩
end Go.Proofs.YtebkmlbpngpmdaaDoor
