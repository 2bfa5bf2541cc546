/- Plain arithmetic: what is read is encoded just so; bytes that are cut; the whole of decoding. -/
import Derived.Test.YtgeeoefcepjniaaM13
namespace Go.Proofs.Ytgeeoefcepjniaa.M

theorem hdLong_ok {r : List UInt8} {m : Nat} {l : Bool} (h : (hdLong r m l).e = 0) : m ≤ 3 ∧ m ≤ r.length ∧ r.headD 0 ≠ 0 ∧ 56 ≤ dg (r.take m) ∧ m + dg (r.take m) ≤ r.length ∧ hdLong r m l = ⟨1 + m, dg (r.take m), l, 0⟩ := by
  unfold hdLong at h ⊢
  by_cases h1 : 3 < m
  · rw [if_pos h1] at h; cases h
  · rw [if_neg h1] at h ⊢
    by_cases h2 : r.length < m
    · rw [if_pos h2] at h; cases h
    · rw [if_neg h2] at h ⊢
      by_cases h3 : r.headD 0 = 0 ∨ dg (r.take m) < 56
      · rw [if_pos h3] at h; cases h
      · rw [if_neg h3] at h ⊢
        by_cases h4 : r.length < m + dg (r.take m)
        · rw [if_pos h4] at h; cases h
        · rw [if_neg h4]
          exact ⟨by omega, by omega, fun h => h3 (.inl h), by omega, by omega, rfl⟩
theorem of_toNat {c : UInt8} {k : Nat} (h : c.toNat = k) : UInt8.ofNat k = c := by rw [← h, UInt8.ofNat_toNat]
theorem hdL_long {r : List UInt8} {m p : Nat} {c : UInt8} (h3 : m ≤ 3) (hm : m ≤ r.length) (h1 : 1 ≤ m) (h0 : r.headD 0 ≠ 0) (h56 : 56 ≤ dg (r.take m)) (hc : c.toNat = p + 55 + m) : c :: r.take m = hdL (dg (r.take m)) p := by
  have hb : ben (dg (r.take m)) = r.take m := by
    refine ben_dg (by rw [List.length_take]; omega) ?_
    intro c' s hs
    cases r with
    | nil => simp at hm; omega
    | cons c0 r0 =>
      obtain ⟨m', rfl⟩ : ∃ m', m = m' + 1 := ⟨m - 1, by omega⟩
      simp at hs h0
      rw [← hs.1]; exact h0
  have hl : (r.take m).length = m := by rw [List.length_take]; omega
  unfold hdL
  rw [if_neg (by omega), hb, hl, of_toNat hc]

/-- What a head that is right tells. -/
theorem hdT_ok {t : List UInt8} (h : (hdT t).e = 0) : (hdT t).off + (hdT t).n ≤ t.length ∧ 1 ≤ (hdT t).off + (hdT t).n ∧ (hdT t).off ≤ 4 ∧
    ((hdT t).list = true → t.take (hdT t).off = hdL (hdT t).n 192 ∧ 192 ≤ (t.headD 0).toNat ∧ 1 ≤ (hdT t).off) ∧
    ((hdT t).list = false → ((hdT t).off = 0 ∧ (hdT t).n = 1 ∧ (t.headD 0).toNat < 128) ∨ (t.take (hdT t).off = hdL (hdT t).n 128 ∧ ¬ ((hdT t).n = 1 ∧ ((t.drop (hdT t).off).headD 0).toNat < 128))) := by
  cases t with
  | nil => cases h
  | cons c r =>
    have hc := c.toNat_lt
    by_cases h1 : c.toNat < 128
    · have e : hdT (c :: r) = ⟨0, 1, false, 0⟩ := by rw [hdT, if_pos h1]
      rw [e]
      simp [h1]
    · by_cases h2 : c.toNat < 184
      · rw [hdT, if_neg h1, if_pos h2] at h
        by_cases h3 : r.length < c.toNat - 128
        · rw [if_pos h3] at h; cases h
        · rw [if_neg h3] at h
          by_cases h4 : c.toNat = 129 ∧ (r.headD 0).toNat < 128
          · rw [if_pos h4] at h; cases h
          · have e : hdT (c :: r) = ⟨1, c.toNat - 128, false, 0⟩ := by rw [hdT, if_neg h1, if_pos h2, if_neg h3, if_neg h4]
            rw [e]
            refine ⟨by simp only [List.length_cons]; omega, by simp only; omega, by simp only; omega, by simp, fun _ => .inr ⟨?_, ?_⟩⟩
            · simp only
              unfold hdL
              rw [if_pos (by omega), of_toNat (c := c) (by omega)]
              rfl
            · simp only [List.drop_one, List.tail_cons]
              rintro ⟨h5, h6⟩
              exact h4 ⟨by omega, h6⟩
      · by_cases h3 : c.toNat < 192
        · have e : hdT (c :: r) = hdLong r (c.toNat - 183) false := by rw [hdT, if_neg h1, if_neg h2, if_pos h3]
          rw [e] at h ⊢
          obtain ⟨k1, k2, k3, k4, k5, k6⟩ := hdLong_ok h
          rw [k6]
          refine ⟨by simp only [List.length_cons]; omega, by simp only; omega, by simp only; omega, by simp, fun _ => .inr ⟨?_, ?_⟩⟩
          · simp only [Nat.add_comm 1, List.take_succ_cons]
            exact hdL_long k1 k2 (by omega) k3 k4 (by omega)
          · simp only; omega
        · by_cases h4 : c.toNat < 248
          · rw [hdT, if_neg h1, if_neg h2, if_neg h3, if_pos h4] at h
            by_cases h5 : r.length < c.toNat - 192
            · rw [if_pos h5] at h; cases h
            · have e : hdT (c :: r) = ⟨1, c.toNat - 192, true, 0⟩ := by rw [hdT, if_neg h1, if_neg h2, if_neg h3, if_pos h4, if_neg h5]
              rw [e]
              refine ⟨by simp only [List.length_cons]; omega, by simp only; omega, by simp only; omega, fun _ => ⟨?_, ?_, ?_⟩, by simp⟩
              · simp only
                unfold hdL
                rw [if_pos (by omega), of_toNat (c := c) (by omega)]
                rfl
              · simp; omega
              · simp
          · have e : hdT (c :: r) = hdLong r (c.toNat - 247) true := by rw [hdT, if_neg h1, if_neg h2, if_neg h3, if_neg h4]
            rw [e] at h ⊢
            obtain ⟨k1, k2, k3, k4, k5, k6⟩ := hdLong_ok h
            rw [k6]
            refine ⟨by simp only [List.length_cons]; omega, by simp only; omega, by simp only; omega, fun _ => ⟨?_, ?_, ?_⟩, by simp⟩
            · simp only [Nat.add_comm 1, List.take_succ_cons]
              exact hdL_long k1 k2 (by omega) k3 k4 (by omega)
            · simp; omega
            · simp

theorem three_parts (t : List UInt8) (a b : Nat) : t.take a ++ ((t.drop a).take b ++ t.drop (a + b)) = t := by
  rw [← List.drop_drop, List.take_append_drop, List.take_append_drop]
theorem read_zero {n : Nat} {t : List UInt8} {d : Nat} (h : (readT n t d).2.2 ≠ 0) : (readT n t d).1 = zeroI := by
  cases n with
  | zero => rw [readT]
  | succ n =>
    rw [readT] at h ⊢
    split
    · rfl
    · split
      · rfl
      · split
        · rename_i h1 h2 h3
          rw [if_neg h1, if_neg h2, if_pos h3] at h
          exact absurd rfl h
        · split
          · rfl
          · rename_i h1 h2 h3 h4
            rw [if_neg h1, if_neg h2, if_neg h3, if_neg h4] at h
            exact absurd rfl h

/-- **WHAT IS READ IS ENCODED JUST SO.** -/
theorem only_n (n : Nat) : (∀ (t : List UInt8) (d : Nat), (readT n t d).2.2 = 0 → t = bytesI (readT n t d).1 ++ (readT n t d).2.1 ∧ formI d (readT n t d).1 = 0) ∧
    (∀ (t : List UInt8) (d k : Nat), (itemsT n t d k).2 = 0 → t = bytesIs (itemsT n t d k).1 ∧ formIs d (itemsT n t d k).1 = 0 ∧ ((itemsT n t d k).1 = [] ∨ k + (itemsT n t d k).1.length ≤ 512)) := by
  induction n with
  | zero => exact ⟨fun t d h => by simp [readT] at h, fun t d k h => by simp [itemsT] at h⟩
  | succ n ih =>
    constructor
    · intro t d h
      rw [readT] at h ⊢
      by_cases h1 : 192 ≤ (t.headD 0).toNat ∧ 12 ≤ d
      · rw [if_pos h1] at h; cases h
      · rw [if_neg h1] at h ⊢
        by_cases h2 : (hdT t).e ≠ 0
        · rw [if_pos h2] at h; exact absurd h h2
        · rw [if_neg h2] at h ⊢
          obtain ⟨k1, k2, k3, k4, k5⟩ := hdT_ok (t := t) (by omega)
          have hown : ((t.drop (hdT t).off).take (hdT t).n).length = (hdT t).n := by rw [List.length_take, List.length_drop]; omega
          have h3p := three_parts t (hdT t).off (hdT t).n
          by_cases h3 : (hdT t).list = false
          · rw [if_pos h3]
            refine ⟨?_, by rw [formI]; simp⟩
            simp only
            rw [bytesI]
            rcases k5 h3 with ⟨a1, a2, a3⟩ | ⟨a1, a2⟩
            · rw [if_pos]
              · rw [a1] at h3p ⊢
                simp only [List.take_zero, List.nil_append] at h3p
                exact h3p.symm
              · rw [hown, a1, a2]
                refine ⟨rfl, ?_⟩
                cases t with
                | nil => simp at k1; omega
                | cons c r => simpa using a3
            · rw [if_neg]
              · rw [hown, ← a1, List.append_assoc]
                exact h3p.symm
              · rw [hown]
                rintro ⟨b1, b2⟩
                refine a2 ⟨b1, ?_⟩
                rw [b1] at b2
                cases hq : t.drop (hdT t).off with
                | nil => simp
                | cons c r => rw [hq] at b2; simpa using b2
          · have hl : (hdT t).list = true := by simpa using h3
            rw [if_neg h3] at h ⊢
            by_cases h4 : (itemsT n ((t.drop (hdT t).off).take (hdT t).n) (d + 1) 0).2 ≠ 0
            · rw [if_pos h4] at h; exact absurd h h4
            · rw [if_neg h4]
              obtain ⟨i1, i2, i3⟩ := ih.2 ((t.drop (hdT t).off).take (hdT t).n) (d + 1) 0 (by omega)
              obtain ⟨a1, a2, a3⟩ := k4 hl
              generalize (itemsT n ((t.drop (hdT t).off).take (hdT t).n) (d + 1) 0).1 = xs at *
              refine ⟨?_, ?_⟩
              · simp only
                rw [bytesI, ← i1, hown, ← a1, List.append_assoc]
                exact h3p.symm
              · simp only
                rw [formI, if_neg (by simp), if_neg (by simp), if_neg (by omega), if_neg ?_]
                · exact i2
                · rcases i3 with rfl | i3
                  · simp
                  · omega
    · intro t d k h
      rw [itemsT] at h ⊢
      by_cases h1 : t = []
      · rw [if_pos h1]
        exact ⟨by rw [h1]; rfl, by rw [formIs], .inl rfl⟩
      · rw [if_neg h1] at h ⊢
        by_cases h2 : 512 ≤ k
        · rw [if_pos h2] at h; cases h
        · rw [if_neg h2] at h ⊢
          by_cases h3 : (readT n t d).2.2 ≠ 0
          · rw [if_pos h3] at h; exact absurd h h3
          · rw [if_neg h3] at h ⊢
            by_cases h4 : (itemsT n (readT n t d).2.1 d (k + 1)).2 ≠ 0
            · rw [if_pos h4] at h; exact absurd h h4
            · rw [if_neg h4]
              obtain ⟨r1, r2⟩ := ih.1 t d (by omega)
              obtain ⟨i1, i2, i3⟩ := ih.2 (readT n t d).2.1 d (k + 1) (by omega)
              refine ⟨?_, ?_, .inr ?_⟩
              · simp only
                rw [bytesIs, ← i1]
                exact r1
              · simp only
                rw [formIs, r2, if_neg (by simp)]
                exact i2
              · simp only [List.length_cons]
                rcases i3 with e | i3
                · rw [e]; simp; omega
                · omega
end Go.Proofs.Ytgeeoefcepjniaa.M
