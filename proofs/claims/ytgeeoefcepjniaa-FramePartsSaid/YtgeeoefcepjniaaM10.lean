/- Plain arithmetic: how deep an item may stand; heads by their lengths; alike. -/
import Derived.Test.YtgeeoefcepjniaaM9
namespace Go.Proofs.Ytgeeoefcepjniaa.M

mutual
/-- What is right in some lists is right in more, or too deep. -/
theorem formI_deep : ∀ (x : It) (d e : Nat), formI d x = 0 → d ≤ e → e ≤ 12 → formI e x = if deepI x + e ≤ 12 then 0 else 7
  | .mk false b xs, d, e, h, _, he => by
    obtain ⟨_, h2⟩ := formI_ok h
    obtain rfl := h2 rfl
    rw [deepI, if_pos (by omega), formI]
    simp
  | .mk true b xs, d, e, h, hde, he => by
    obtain ⟨h1, _⟩ := formI_ok h
    obtain ⟨rfl, h3, h4, h5⟩ := h1 rfl
    rw [deepI, formI]
    rw [if_neg (by simp), if_neg (by simp)]
    by_cases h12 : 12 ≤ e
    · rw [if_pos h12, if_neg (by omega)]
    · rw [if_neg h12, if_neg (by omega), formIs_deep xs (d + 1) (e + 1) h5 (by omega) (by omega)]
      by_cases hq : deepIs xs + (e + 1) ≤ 12
      · rw [if_pos hq, if_pos (by omega)]
      · rw [if_neg hq, if_neg (by omega)]
theorem formIs_deep : ∀ (xs : List It) (d e : Nat), formIs d xs = 0 → d ≤ e → e ≤ 12 → formIs e xs = if deepIs xs + e ≤ 12 then 0 else 7
  | [], _, e, _, _, he => by rw [formIs, deepIs, if_pos (by omega)]
  | x :: xs, d, e, h, hde, he => by
    obtain ⟨h1, h2⟩ := formIs_ok h
    rw [formIs, deepIs, formI_deep x d e h1 hde he, formIs_deep xs d e h2 hde he]
    by_cases hx : deepI x + e ≤ 12
    · rw [if_pos hx, if_neg (by simp)]
      by_cases hq : deepIs xs + e ≤ 12
      · rw [if_pos hq, if_pos (by omega)]
      · rw [if_neg hq, if_neg (by omega)]
    · rw [if_neg hx, if_pos (by simp), if_neg (by omega)]
end
mutual
theorem formI_mono : ∀ (x : It) (d e : Nat), formI d x = 0 → e ≤ d → formI e x = 0
  | .mk false b xs, d, e, h, _ => by
    obtain ⟨_, h2⟩ := formI_ok h
    obtain rfl := h2 rfl
    rw [formI]
    simp
  | .mk true b xs, d, e, h, hde => by
    obtain ⟨h1, _⟩ := formI_ok h
    obtain ⟨rfl, h3, h4, h5⟩ := h1 rfl
    rw [formI, if_neg (by simp), if_neg (by simp), if_neg (by omega), if_neg (by omega)]
    exact formIs_mono xs (d + 1) (e + 1) h5 (by omega)
theorem formIs_mono : ∀ (xs : List It) (d e : Nat), formIs d xs = 0 → e ≤ d → formIs e xs = 0
  | [], _, _, _, _ => by rw [formIs]
  | x :: xs, d, e, h, hde => by
    obtain ⟨h1, h2⟩ := formIs_ok h
    rw [formIs, formI_mono x d e h1 hde, if_neg (by simp)]
    exact formIs_mono xs d e h2 hde
end
theorem checkI_ok {x : It} : checkI x = 0 ↔ formI 0 x = 0 ∧ (bytesI x).length ≤ 65536 := by
  unfold checkI
  by_cases h : formI 0 x = 0 ∧ 65536 < (bytesI x).length
  · rw [if_pos h]
    exact ⟨fun h' => (by cases h'), fun h' => by omega⟩
  · rw [if_neg h]
    exact ⟨fun h' => ⟨h', by omega⟩, fun h' => h'.1⟩
/-- A right item is no deeper than 12. -/
theorem deep_12 {x : It} (h : formI 0 x = 0) : deepI x ≤ 12 := by
  have := formI_deep x 0 0 h (Nat.le_refl _) (by omega)
  rw [h] at this
  split at this
  · omega
  · cases this
/-- A list of one right item. -/
theorem list_one {x : It} (h : formI 0 x = 0) : formI 0 (.mk true [] [x]) = if deepI x < 12 then 0 else 7 := by
  rw [formI, if_neg (by simp), if_neg (by simp), if_neg (by omega), if_neg (by simp), formIs_deep [x] 0 1 (by rw [formIs, h, formIs]; simp) (by omega) (by omega)]
  have e : deepIs [x] = deepI x := by rw [deepIs, deepIs]; omega
  rw [e]
  by_cases hq : deepI x < 12
  · rw [if_pos hq, if_pos (by omega)]
  · rw [if_neg hq, if_neg (by omega)]

theorem hdL_length {n p : Nat} (hn : n ≤ 65536) : 1 ≤ (hdL n p).length ∧ (hdL n p).length ≤ 4 ∧ ((hdL n p).length = 1 ↔ n < 56) := by
  unfold hdL
  have h3 : (ben n).length ≤ 3 := (ben_width (by omega) (by omega)).2 (by omega)
  by_cases h : n < 56
  · rw [if_pos h]; simp [h]
  · have := ben_pos (n := n) (by omega) (by omega)
    rw [if_neg h]
    simp only [List.length_cons]
    omega
mutual
theorem part_size : ∀ (xs : List It) (x : It), x ∈ xs → (bytesI x).length ≤ (bytesIs xs).length
  | [], _, h => by cases h
  | y :: ys, x, h => by
    rw [bytesIs, List.length_append]
    rcases List.mem_cons.1 h with rfl | h
    · omega
    · have := part_size ys x h; omega
end
theorem part_form : ∀ {xs : List It} {d : Nat}, formIs d xs = 0 → ∀ x ∈ xs, formI d x = 0
  | [], _, _, _, h => by cases h
  | y :: ys, d, hf, x, h => by
    obtain ⟨h1, h2⟩ := formIs_ok hf
    rcases List.mem_cons.1 h with rfl | h
    · exact h1
    · exact part_form h2 x h
/-- The parts of a right list are right. -/
theorem part_check {xs : List It} {x : It} {b : List UInt8} (h : checkI (.mk true b xs) = 0) (hx : x ∈ xs) : checkI x = 0 := by
  obtain ⟨h1, h2⟩ := checkI_ok.1 h
  obtain ⟨h3, _⟩ := formI_ok h1
  obtain ⟨_, _, _, h4⟩ := h3 rfl
  rw [bytesI, List.length_append] at h2
  exact checkI_ok.2 ⟨formI_mono x 1 0 (part_form h4 x hx) (by omega), by have := part_size xs x hx; omega⟩
theorem bytesIs_append (xs ys : List It) : bytesIs (xs ++ ys) = bytesIs xs ++ bytesIs ys := by
  induction xs with
  | nil => rfl
  | cons x xs ih => rw [List.cons_append, bytesIs, bytesIs, ih, List.append_assoc]

mutual
def sameI : It → It → Bool
  | .mk la ba xs, .mk lb bb ys => la == lb && (ba == bb && (xs.length == ys.length && sameIs xs ys))
def sameIs : List It → List It → Bool
  | x :: xs, y :: ys => sameI x y && sameIs xs ys
  | _, _ => true
end
mutual
theorem sameI_iff : ∀ (x y : It), sameI x y = true ↔ x = y
  | .mk la ba xs, .mk lb bb ys => by
    rw [sameI]
    simp only [Bool.and_eq_true, beq_iff_eq, It.mk.injEq]
    constructor
    · rintro ⟨h1, h2, h3, h4⟩
      exact ⟨h1, h2, (sameIs_iff xs ys h3).1 h4⟩
    · rintro ⟨h1, h2, h3⟩
      subst h3
      exact ⟨h1, h2, rfl, (sameIs_iff xs xs rfl).2 rfl⟩
theorem sameIs_iff : ∀ (xs ys : List It), xs.length = ys.length → (sameIs xs ys = true ↔ xs = ys)
  | [], [], _ => by simp [sameIs]
  | x :: xs, y :: ys, h => by
    rw [sameIs]
    simp only [Bool.and_eq_true, List.cons.injEq]
    rw [sameI_iff x y, sameIs_iff xs ys (by simpa using h)]
end
/-- Two right items: their bytes, and whether they are alike. -/
theorem apart_same {a b : It} (ha : checkI a = 0) (hb : checkI b = 0) : (bytesI a = bytesI b ↔ sameI a b = true) ∧ ((bytesI b).take (bytesI a).length = bytesI a ↔ sameI a b = true) := by
  obtain ⟨a1, a2⟩ := checkI_ok.1 ha
  obtain ⟨b1, b2⟩ := checkI_ok.1 hb
  have key : ∀ r s, bytesI a ++ r = bytesI b ++ s → a = b := fun r s h => (bytes_apart a b 0 0 r s a1 b1 (by omega) (by omega) h).1
  rw [sameI_iff]
  refine ⟨⟨fun h => key [] [] (by rw [h]), fun h => by rw [h]⟩, ⟨fun h => ?_, fun h => by rw [h]; simp⟩⟩
  refine key ((bytesI b).drop (bytesI a).length) [] ?_
  rw [List.append_nil]
  exact (congrArg (· ++ (bytesI b).drop (bytesI a).length) h.symm).trans (List.take_append_drop _ _)

theorem ben_one {n : Nat} (h0 : 0 < n) (h : n < 256) : ben n = [UInt8.ofNat n] := by
  have h1 := ben_pos (n := n) (by omega) h0
  have h2 := (ben_width (n := n) (k := 1) (by omega) (by omega)).2 (by omega)
  have hd := dg_ben (n := n) (by omega)
  match hb : ben n with
  | [] => rw [hb] at h1; simp at h1
  | [c] =>
    rw [hb] at hd
    have : c.toNat = n := by simpa [dg, dgA] using hd
    rw [← this, UInt8.ofNat_toNat]
  | _ :: _ :: _ => rw [hb] at h2; simp at h2
theorem ben_two {n : Nat} (h0 : 256 ≤ n) (h : n < 65536) : ben n = [UInt8.ofNat (n / 256), UInt8.ofNat (n % 256)] := by
  have h1 : ¬ (ben n).length ≤ 1 := fun hl => by have := (ben_width (n := n) (k := 1) (by omega) (by omega)).1 hl; omega
  have h2 := (ben_width (n := n) (k := 2) (by omega) (by omega)).2 (by omega)
  have hd := dg_ben (n := n) (by omega)
  match hb : ben n with
  | [] => rw [hb] at h1; simp at h1
  | [_] => rw [hb] at h1; simp at h1
  | [c, d] =>
    rw [hb] at hd
    have hd' : c.toNat * 256 + d.toNat = n := by simpa [dg, dgA] using hd
    have hdl := d.toNat_lt
    have e1 : n / 256 = c.toNat := by omega
    have e2 : n % 256 = d.toNat := by omega
    rw [e1, e2, UInt8.ofNat_toNat, UInt8.ofNat_toNat]
  | _ :: _ :: _ :: _ => rw [hb] at h2; simp at h2
/-- Bytes as an item: with their head. -/
theorem short_one {b : List UInt8} {c : UInt8} (h : b = [c]) (hc : c.toNat < 128) : bytesI (.mk false b []) = b := by
  subst h
  rw [bytesI, if_pos ⟨rfl, hc⟩]
theorem short_55 {b : List UInt8} (h1 : ¬ (b.length = 1 ∧ (b.headD 0).toNat < 128)) (h : b.length < 56) : bytesI (.mk false b []) = UInt8.ofNat (128 + b.length) :: b := by
  rw [bytesI, if_neg h1, hdL, if_pos h]
  rfl
theorem short_255 {b : List UInt8} (h : 56 ≤ b.length) (h2 : b.length < 256) : bytesI (.mk false b []) = 184 :: UInt8.ofNat b.length :: b := by
  rw [bytesI, if_neg (by omega), hdL, if_neg (by omega), ben_one (by omega) h2]
  rfl
theorem short_long {b : List UInt8} (h : 256 ≤ b.length) (h2 : b.length < 65536) : bytesI (.mk false b []) = 185 :: UInt8.ofNat (b.length / 256) :: UInt8.ofNat (b.length % 256) :: b := by
  rw [bytesI, if_neg (by omega), hdL, if_neg (by omega), ben_two h h2]
  rfl
end Go.Proofs.Ytgeeoefcepjniaa.M
