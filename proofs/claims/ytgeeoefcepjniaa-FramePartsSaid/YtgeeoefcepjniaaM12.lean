/- Plain arithmetic: what the statements of layer 4 lean on. -/
import Derived.Test.YtgeeoefcepjniaaM11
namespace Go.Proofs.Ytgeeoefcepjniaa.M

theorem encode_ok {x : It} (h : checkI x = 0) : encodeI x = (bytesI x, 0) := by unfold encodeI; rw [if_pos h]
theorem encode_no {x : It} (h : checkI x ≠ 0) : encodeI x = ([], checkI x) := by unfold encodeI; rw [if_neg h]
theorem few_size {x : It} (h : cntI x ≤ 120) (hs : smI x) : (bytesI x).length ≤ 20000000000000000 := by
  have := bytesI_most x hs (by omega)
  omega
mutual
theorem formI_le : ∀ (x : It) (d : Nat), formI d x ≤ 7
  | .mk l b xs, d => by
    have := formIs_le xs (d + 1)
    rw [formI]
    split
    · omega
    · split
      · omega
      · split
        · omega
        · split <;> omega
theorem formIs_le : ∀ (xs : List It) (d : Nat), formIs d xs ≤ 7
  | [], d => by rw [formIs]; omega
  | x :: xs, d => by
    have h1 := formI_le x d
    have h2 := formIs_le xs d
    rw [formIs]
    split <;> omega
end
theorem checkI_le (x : It) : checkI x ≤ 7 := by
  unfold checkI
  have := formI_le x 0
  split <;> omega
theorem deep_one (x : It) : deepI (.mk true [] [x]) = deepI x + 1 := by rw [deepI, deepIs, deepIs]; omega
theorem size_one (x : It) (h : (bytesI x).length < 18446744073709551616) : (bytesI (.mk true [] [x])).length ≤ (bytesI x).length + 9 := by
  have e : bytesIs [x] = bytesI x := by rw [bytesIs, bytesIs, List.append_nil]
  rw [bytesI, e, List.length_append]
  have := (hdL_9 (n := (bytesI x).length) (p := 192) h).2
  omega
theorem check_one {x : It} (h : checkI x = 0) (hs : (bytesI x).length ≤ 60000) : checkI (.mk true [] [x]) = if deepI x < 12 then 0 else 7 := by
  have h1 := checkI_ok.1 h
  have h2 := list_one h1.1
  have h3 := size_one x (by omega)
  unfold checkI
  rw [h2]
  by_cases hd : deepI x < 12
  · rw [if_pos hd, if_neg (by omega)]
  · rw [if_neg hd, if_neg (by omega)]
/-- Short bytes are an item. -/
theorem check_short {b : List UInt8} (h : b.length ≤ 3000) : checkI (.mk false b []) = 0 := by
  refine checkI_ok.2 ⟨by rw [formI]; simp, ?_⟩
  rw [bytesI]
  split
  · omega
  · rw [List.length_append]
    have := (hdL_9 (n := b.length) (p := 128) (by omega)).2
    omega
end Go.Proofs.Ytgeeoefcepjniaa.M
