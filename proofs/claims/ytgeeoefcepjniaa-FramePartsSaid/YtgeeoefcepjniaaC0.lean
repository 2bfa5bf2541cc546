/- Bytes as strings: converted, put together, cut, looked into. -/
import Derived.Test.YtgeeoefcepjniaaA0
import Derived.Test.YtgeeoefcepjniaaC1
import Derived.Laws.BytesArg
namespace Go.Proofs.Ytgeeoefcepjniaa
open Go Go.RowKit

theorem wrap_u8 {a : Int} {c : UInt8} (h : a = (c.toNat : Nat)) : IntKind.u8.wrap a = ((c.toNat : Nat) : Int) := by
  have hc := c.toNat_lt
  rw [h]
  show ((c.toNat : Nat) : Int) % (2 ^ 8 : Int) = _
  omega
theorem ofNat_at {k : Nat} (h : k < 256) : ((UInt8.ofNat k).toNat : Nat) = k := UInt8.toNat_ofNat_of_lt' h

theorem rcat {d c : List UInt8} : (Value.string ((⟨d.toArray⟩ : ByteArray) ++ (⟨c.toArray⟩ : ByteArray))) = .string ⟨(d ++ c).toArray⟩ := congrArg Value.string (cat_eq d c)

theorem cut0 (t : List UInt8) (k : Nat) : ((⟨t.toArray⟩ : ByteArray).extract 0 k).toList = t.take k := by
  rw [ByteArray.toList_eq]
  simp [ByteArray.data_extract]

theorem cutS (t : List UInt8) (j k : Nat) : (⟨t.toArray⟩ : ByteArray).extract j k = ⟨((t.take k).drop j).toArray⟩ := by
  apply ByteArray.ext
  simp [ByteArray.data_extract, List.drop_take]

theorem cutb (t : List UInt8) (k : Nat) : ((⟨t.toArray⟩ : ByteArray).extract k t.length).toList = t.drop k := by
  rw [ByteArray.toList_eq]
  simp only [ByteArray.data_extract, List.extract_toArray]
  simp
  rw [List.take_of_length_le (by simp)]
theorem idx_at {l : List UInt8} {k : Nat} {c : UInt8} (h : l[k]? = some c) : ∀ hk : k < (⟨l.toArray⟩ : ByteArray).size, (⟨l.toArray⟩ : ByteArray)[k]'hk = c := fun hk => by
  obtain ⟨h1, h2⟩ := List.getElem?_eq_some_iff.1 h
  show l.toArray[k] = c
  simpa using h2

theorem wrap_byte (c : UInt8) : wrap64 ((c.toNat : Nat) : Int) = ((c.toNat : Nat) : Int) := by
  have := c.toNat_lt
  unfold wrap64
  omega

/-- A string from one place to another one. -/
theorem slice_str (l : List UInt8) (a b : Nat) (hab : a ≤ b) (hbl : b ≤ l.length) (w : World) :
    (Instr.slice 9 (.string ⟨l.toArray⟩) (some (.int .i64 a)) (some (.int .i64 b)) none).run Try.prog w = .ok (.string ((⟨l.toArray⟩ : ByteArray).extract a b)) w := by
  have h1 : ((a : Nat) : Int) ≤ b := by omega
  have hs : (⟨l.toArray⟩ : ByteArray).size = l.length := rfl
  have h2 : ((b : Nat) : Int) ≤ ((⟨l.toArray⟩ : ByteArray).size : Nat) := by rw [hs]; omega
  simp [Instr.slice, run_underlying Try.underlying9, Instr.sliceBounds, run_sliceBound, h1, h2]

end Go.Proofs.Ytgeeoefcepjniaa
