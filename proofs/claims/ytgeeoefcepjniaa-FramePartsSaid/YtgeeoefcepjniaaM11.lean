/- Plain arithmetic: how many items an item holds; what its bytes come to at most; parts by their places. -/
import Derived.Test.YtgeeoefcepjniaaM10
namespace Go.Proofs.Ytgeeoefcepjniaa.M

mutual
def cntI : It → Nat
  | .mk _ _ xs => 1 + cntIs xs
def cntIs : List It → Nat
  | [] => 0
  | x :: xs => cntI x + cntIs xs
end
mutual
/-- No bytes in it are longer than any string. -/
def smI : It → Prop
  | .mk _ b xs => b.length ≤ 140737488355328 ∧ smIs xs
def smIs : List It → Prop
  | [] => True
  | x :: xs => smI x ∧ smIs xs
end
theorem hdL_9 {n p : Nat} (hn : n < 18446744073709551616) : 1 ≤ (hdL n p).length ∧ (hdL n p).length ≤ 9 := by
  unfold hdL
  have h3 := ben_le hn
  by_cases h : n < 56
  · rw [if_pos h]; simp
  · rw [if_neg h]
    simp only [List.length_cons]
    omega
mutual
theorem bytesI_most : ∀ x : It, smI x → cntI x ≤ 1000 → (bytesI x).length ≤ cntI x * 140737488355337
  | .mk true b xs, hs, hc => by
    rw [cntI] at hc ⊢
    rw [smI] at hs
    have h1 := bytesIs_most xs hs.2 (by omega)
    rw [bytesI, List.length_append]
    have h2 := (hdL_9 (n := (bytesIs xs).length) (p := 192) (by omega)).2
    omega
  | .mk false b xs, hs, hc => by
    rw [cntI] at hc ⊢
    rw [smI] at hs
    rw [bytesI]
    split
    · omega
    · rw [List.length_append]
      have h2 := (hdL_9 (n := b.length) (p := 128) (by omega)).2
      omega
theorem bytesIs_most : ∀ xs : List It, smIs xs → cntIs xs ≤ 1000 → (bytesIs xs).length ≤ cntIs xs * 140737488355337
  | [], _, _ => by simp [bytesIs]
  | x :: xs, hs, hc => by
    rw [cntIs] at hc ⊢
    rw [smIs] at hs
    have h1 := bytesI_most x hs.1 (by omega)
    have h2 := bytesIs_most xs hs.2 (by omega)
    rw [bytesIs, List.length_append]
    omega
end
mutual
theorem deepI_most : ∀ x : It, deepI x ≤ cntI x
  | .mk true b xs => by
    rw [deepI, cntI]
    have := deepIs_most xs
    omega
  | .mk false b xs => by rw [deepI]; omega
theorem deepIs_most : ∀ xs : List It, deepIs xs ≤ cntIs xs
  | [] => by rw [deepIs, cntIs]; omega
  | x :: xs => by
    rw [deepIs, cntIs]
    have h1 := deepI_most x
    have h2 := deepIs_most xs
    omega
end
theorem cntI_pos (x : It) : 1 ≤ cntI x := by cases x; rw [cntI]; omega
theorem length_cnt : ∀ xs : List It, xs.length ≤ cntIs xs
  | [] => Nat.zero_le _
  | x :: xs => by
    rw [cntIs, List.length_cons]
    have h1 := cntI_pos x
    have h2 := length_cnt xs
    omega
theorem cntIs_append (xs ys : List It) : cntIs (xs ++ ys) = cntIs xs + cntIs ys := by
  induction xs with
  | nil => simp [cntIs]
  | cons x xs ih => rw [List.cons_append, cntIs, cntIs, ih, Nat.add_assoc]
theorem deepIs_append (xs ys : List It) : deepIs (xs ++ ys) = max (deepIs xs) (deepIs ys) := by
  induction xs with
  | nil => simp [deepIs]
  | cons x xs ih => rw [List.cons_append, deepIs, deepIs, ih, Nat.max_assoc]
theorem take_next {xs : List It} {k : Nat} {x : It} (h : xs[k]? = some x) : xs.take (k + 1) = xs.take k ++ [x] := by
  rw [List.take_add_one, h]; rfl
theorem bytesIs_next {xs : List It} {k : Nat} {x : It} (h : xs[k]? = some x) : bytesIs (xs.take (k + 1)) = bytesIs (xs.take k) ++ bytesI x := by
  rw [take_next h, bytesIs_append]; simp [bytesIs]
theorem cntIs_next {xs : List It} {k : Nat} {x : It} (h : xs[k]? = some x) : cntIs (xs.take (k + 1)) = cntIs (xs.take k) + cntI x := by
  rw [take_next h, cntIs_append]; simp [cntIs]
theorem deepIs_next {xs : List It} {k : Nat} {x : It} (h : xs[k]? = some x) : deepIs (xs.take (k + 1)) = max (deepIs (xs.take k)) (deepI x) := by
  rw [take_next h, deepIs_append]; simp [deepIs]
theorem bytesIs_part (xs : List It) (k : Nat) : (bytesIs (xs.take k)).length ≤ (bytesIs xs).length := by
  have := bytesIs_append (xs.take k) (xs.drop k)
  rw [List.take_append_drop] at this
  rw [this, List.length_append]; omega
theorem deepIs_part (xs : List It) (k : Nat) : deepIs (xs.take k) ≤ deepIs xs := by
  have := deepIs_append (xs.take k) (xs.drop k)
  rw [List.take_append_drop] at this
  omega
theorem deepI_part : ∀ {xs : List It} {x : It}, x ∈ xs → deepI x ≤ deepIs xs
  | y :: ys, x, h => by
    rw [deepIs]
    rcases List.mem_cons.1 h with rfl | h
    · omega
    · have := deepI_part h; omega
theorem cntI_part : ∀ {xs : List It} {x : It}, x ∈ xs → cntI x ≤ cntIs xs
  | y :: ys, x, h => by
    rw [cntIs]
    rcases List.mem_cons.1 h with rfl | h
    · omega
    · have := cntI_part h; omega
theorem smI_part : ∀ {xs : List It} {x : It}, smIs xs → x ∈ xs → smI x
  | y :: ys, x, hs, h => by
    rw [smIs] at hs
    rcases List.mem_cons.1 h with rfl | h
    · exact hs.1
    · exact smI_part hs.2 h

theorem formIs_append (d : Nat) (xs ys : List It) : formIs d (xs ++ ys) = if formIs d xs ≠ 0 then formIs d xs else formIs d ys := by
  induction xs with
  | nil => simp [formIs]
  | cons x xs ih =>
    rw [List.cons_append, formIs, formIs, ih]
    by_cases h1 : formI d x ≠ 0
    · rw [if_pos h1, if_pos h1, if_pos h1]
    · rw [if_neg h1, if_neg h1]
theorem formIs_next {d : Nat} {xs : List It} {k : Nat} {x : It} (h : xs[k]? = some x) (h0 : formIs d (xs.take k) = 0) : formIs d (xs.take (k + 1)) = formI d x := by
  rw [take_next h, formIs_append, h0, if_neg (by simp), formIs, formIs]
  split <;> omega
theorem formIs_first {d : Nat} {xs : List It} {k : Nat} {x : It} (h : xs[k]? = some x) (h0 : formIs d (xs.take k) = 0) (h1 : formI d x ≠ 0) : formIs d xs = formI d x := by
  have h2 := formIs_append d (xs.take (k + 1)) (xs.drop (k + 1))
  rw [List.take_append_drop, formIs_next h h0, if_pos h1] at h2
  exact h2

theorem sameIs_next : ∀ {xs ys : List It} {k : Nat} {x y : It}, xs[k]? = some x → ys[k]? = some y → sameIs (xs.take (k + 1)) (ys.take (k + 1)) = (sameIs (xs.take k) (ys.take k) && sameI x y)
  | x' :: xs, y' :: ys, 0, x, y, h, g => by
    simp at h g
    subst h g
    simp [sameIs]
  | x' :: xs, y' :: ys, k + 1, x, y, h, g => by
    simp at h g
    simp only [List.take_succ_cons, sameIs]
    rw [sameIs_next h g, Bool.and_assoc]
theorem sameIs_all {xs ys : List It} (h : xs.length = ys.length) : sameIs (xs.take xs.length) (ys.take xs.length) = sameIs xs ys := by
  rw [List.take_length, h, List.take_length]
theorem sameIs_no : ∀ {xs ys : List It} {k : Nat} {x y : It}, xs[k]? = some x → ys[k]? = some y → sameI x y = false → sameIs xs ys = false
  | x' :: xs, y' :: ys, 0, x, y, h, g, e => by
    simp at h g
    subst h g
    simp [sameIs, e]
  | x' :: xs, y' :: ys, k + 1, x, y, h, g, e => by
    simp at h g
    rw [sameIs, sameIs_no h g e, Bool.and_false]
end Go.Proofs.Ytgeeoefcepjniaa.M
