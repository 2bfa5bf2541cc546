/- Plain arithmetic: decoding, whole; bytes that are cut; places in bytes. -/
import Derived.Test.YtgeeoefcepjniaaM14
namespace Go.Proofs.Ytgeeoefcepjniaa.M

theorem hdLong_cut {n j : Nat} {own : List UInt8} {l : Bool} (hn : own.length = n) (h : n ≤ 65536) (h56 : 56 ≤ n) (hj : j < (ben n).length + n) : (hdLong ((ben n ++ own).take j) (ben n).length l).e = 3 := by
  obtain ⟨h1, h3⟩ := ben_3 h h56
  unfold hdLong
  rw [if_neg (by omega)]
  have hlen : ((ben n ++ own).take j).length = j := by rw [List.length_take, List.length_append]; omega
  by_cases hj1 : j < (ben n).length
  · rw [if_pos (by rw [hlen]; exact hj1)]; rfl
  · have e : (ben n ++ own).take j = ben n ++ own.take (j - (ben n).length) := by rw [List.take_append, List.take_of_length_le (by omega)]
    rw [if_neg (by rw [hlen]; exact hj1), hlen, e, List.take_left, dg_ben (by omega), if_neg ?_, if_pos (by omega)]
    · rfl
    · intro h'
      rcases h' with h' | h'
      · cases hb : ben n with
        | nil => rw [hb] at h1; simp at h1
        | cons c s => rw [hb] at h'; exact ben_head c s hb (by simpa using h')
      · omega
theorem cut_head {own : List UInt8} {p j : Nat} (hp : p = 128 ∨ p = 192) (h : own.length ≤ 65536) (hj : j < (hdL own.length p ++ own).length) : (hdT ((hdL own.length p ++ own).take j)).e = 3 := by
  cases j with
  | zero => rfl
  | succ j =>
    unfold hdL at hj ⊢
    by_cases h56 : own.length < 56
    · rw [if_pos h56] at hj ⊢
      simp only [List.singleton_append, List.take_succ_cons, List.length_cons] at hj ⊢
      have hlen : (own.take j).length = j := by rw [List.length_take]; omega
      have e : (UInt8.ofNat (p + own.length)).toNat = p + own.length := UInt8.toNat_ofNat_of_lt' (by show p + own.length < 256; omega)
      rw [hdT, e]
      rcases hp with rfl | rfl
      · rw [if_neg (by omega), if_pos (by omega), if_pos (by omega)]; rfl
      · rw [if_neg (by omega), if_neg (by omega), if_neg (by omega), if_pos (by omega), if_pos (by omega)]; rfl
    · obtain ⟨h1, h3⟩ := ben_3 h (by omega)
      rw [if_neg h56] at hj ⊢
      simp only [List.cons_append, List.take_succ_cons, List.length_cons, List.length_append] at hj ⊢
      have e : (UInt8.ofNat (p + 55 + (ben own.length).length)).toNat = p + 55 + (ben own.length).length := UInt8.toNat_ofNat_of_lt' (by show p + 55 + (ben own.length).length < 256; omega)
      rw [hdT, e]
      rcases hp with rfl | rfl
      · rw [if_neg (by omega), if_neg (by omega), if_pos (by omega), show 128 + 55 + (ben own.length).length - 183 = (ben own.length).length by omega]
        exact hdLong_cut rfl h (by omega) (by omega)
      · rw [if_neg (by omega), if_neg (by omega), if_neg (by omega), if_neg (by omega), show 192 + 55 + (ben own.length).length - 247 = (ben own.length).length by omega]
        exact hdLong_cut rfl h (by omega) (by omega)
/-- Bytes that are cut are no item's. -/
theorem cut_item (x : It) (j : Nat) (h : (bytesI x).length ≤ 65536) (hj : j < (bytesI x).length) : (hdT ((bytesI x).take j)).e = 3 := by
  match x with
  | .mk true _ xs =>
    rw [bytesI] at h hj ⊢
    rw [List.length_append] at h
    exact cut_head (.inr rfl) (by omega) hj
  | .mk false b _ =>
    rw [bytesI] at h hj ⊢
    by_cases hs : b.length = 1 ∧ (b.headD 0).toNat < 128
    · rw [if_pos hs] at hj ⊢
      have : j = 0 := by omega
      subst this
      rfl
    · rw [if_neg hs] at h hj ⊢
      rw [List.length_append] at h
      exact cut_head (.inl rfl) (by omega) hj

theorem dec_back {x : It} (h : checkI x = 0) : decodeL (bytesI x) = (x, 0) := by
  obtain ⟨h1, h2⟩ := checkI_ok.1 h
  have e := read_back x 0 (2 * (bytesI x).length + 1) [] h1 h2 (Nat.le_refl _)
  rw [List.append_nil] at e
  unfold decodeL
  rw [if_neg (by omega), e]
  simp
theorem dec_more {x : It} {r : List UInt8} (h : checkI x = 0) (hr : r ≠ []) : decodeL (bytesI x ++ r) = (zeroI, if 65536 < (bytesI x).length + r.length then 5 else 4) := by
  obtain ⟨h1, h2⟩ := checkI_ok.1 h
  unfold decodeL
  rw [List.length_append]
  by_cases hl : 65536 < (bytesI x).length + r.length
  · rw [if_pos hl, if_pos hl]
  · rw [if_neg hl, if_neg hl, read_back x 0 _ r h1 h2 (by omega)]
    simp [hr]
theorem dec_cut {x : It} {j : Nat} (h : checkI x = 0) (hj : j < (bytesI x).length) : decodeL ((bytesI x).take j) = (zeroI, 3) := by
  obtain ⟨h1, h2⟩ := checkI_ok.1 h
  have h3 := cut_item x j h2 hj
  have e : readT (2 * ((bytesI x).take j).length + 1) ((bytesI x).take j) 0 = (zeroI, [], 3) := by
    rw [readT, if_neg (by omega), if_pos (by omega), h3]
  unfold decodeL
  rw [if_neg (by rw [List.length_take]; omega), e]
  simp
theorem dec_only {s : List UInt8} (h : (decodeL s).2 = 0) : bytesI (decodeL s).1 = s ∧ checkI (decodeL s).1 = 0 := by
  unfold decodeL at h ⊢
  by_cases h1 : 65536 < s.length
  · rw [if_pos h1] at h; cases h
  · rw [if_neg h1] at h ⊢
    by_cases h2 : (readT (2 * s.length + 1) s 0).2.2 ≠ 0
    · rw [if_pos h2] at h; exact absurd h h2
    · rw [if_neg h2] at h ⊢
      by_cases h3 : (readT (2 * s.length + 1) s 0).2.1 ≠ []
      · rw [if_pos h3] at h; cases h
      · rw [if_neg h3]
        obtain ⟨a1, a2⟩ := (only_n (2 * s.length + 1)).1 s 0 (by omega)
        have h3' : (readT (2 * s.length + 1) s 0).2.1 = [] := Classical.not_not.1 h3
        rw [h3', List.append_nil] at a1
        refine ⟨a1.symm, checkI_ok.2 ⟨a2, ?_⟩⟩
        simp only
        rw [← a1]
        omega
theorem dec_no {s : List UInt8} (h : (decodeL s).2 ≠ 0) : (decodeL s).1 = zeroI := by
  unfold decodeL at h ⊢
  split
  · rfl
  · split
    · rfl
    · split
      · rfl
      · rename_i h1 h2 h3
        rw [if_neg h1, if_neg h2, if_neg h3] at h
        exact absurd rfl h
theorem hdT_e_le (t : List UInt8) : (hdT t).e ≤ 8 := by
  have hl : ∀ r m l, (hdLong r m l).e ≤ 8 := by
    intro r m l
    unfold hdLong
    repeat' split
    all_goals simp [hdErr]
  cases t with
  | nil => simp [hdT, hdErr]
  | cons c r =>
    rw [hdT]
    repeat' split
    all_goals first | exact hl _ _ _ | simp [hdErr]
theorem headL_e_le (s : List UInt8) (k : Nat) : (headL s k).e ≤ 8 := by
  unfold headL
  have := hdT_e_le (s.drop k)
  split
  · simp [hdErr]
  · split
    · simp
    · exact this

/-- A head at a place: within the bytes, behind the place. -/
theorem headL_ok {s : List UInt8} {k : Nat} (h : (headL s k).e = 0) : k ≤ (headL s k).off ∧ (headL s k).off ≤ k + 4 ∧ k < (headL s k).off + (headL s k).n ∧ (headL s k).off + (headL s k).n ≤ s.length := by
  unfold headL at h ⊢
  by_cases h1 : s.length < k
  · rw [if_pos h1] at h; cases h
  · rw [if_neg h1] at h ⊢
    by_cases h2 : (hdT (s.drop k)).e = 0
    · rw [if_pos h2]
      obtain ⟨a1, a2, a3, _, _⟩ := hdT_ok h2
      rw [List.length_drop] at a1
      simp only
      omega
    · rw [if_neg h2] at h
      exact absurd h h2
theorem headL_no {s : List UInt8} {k : Nat} (h : (headL s k).e ≠ 0) : headL s k = hdErr (headL s k).e := by
  unfold headL at h ⊢
  split
  · rfl
  · split
    · rename_i h1 h2
      rw [if_neg h1, if_pos h2] at h
      exact absurd rfl h
    · rfl
/-- The head of an item at its place. -/
theorem headL_item (a : List UInt8) (x : It) (r : List UInt8) (h : (bytesI x).length ≤ 65536) : headL (a ++ (bytesI x ++ r)) a.length = ⟨a.length + offI x, (ownI x).length, isL x, 0⟩ := by
  unfold headL
  rw [if_neg (by rw [List.length_append]; omega), List.drop_left, hdT_item x r h]
  rfl
end Go.Proofs.Ytgeeoefcepjniaa.M
