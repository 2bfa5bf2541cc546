/- NumApart: the walk: no number's digits begin another one's; bytes are in the order of lengths, and then of bytes. -/
import Derived.Test.YtmcchfgblecgoaaDoorNK
import Derived.Test.YtmcchfgblecgoaaDoorM6
import Derived.OpenShut
namespace Go.Proofs.YtmcchfgblecgoaaDoor
open Go Go.RowKit Go.ChangeShapes

theorem less_cons (c d : UInt8) (l r : List UInt8) : Op.bytesLess (c :: l) (d :: r) = (decide (c < d) || (c == d && Op.bytesLess l r)) := by
  rw [Op.bytesLess]

theorem less_dg : ∀ (l r : List UInt8), l.length = r.length → Op.bytesLess l r = decide (M.dg l < M.dg r)
  | [], [], _ => by decide
  | c :: l, d :: r, h => by
    have hl : l.length = r.length := by simpa using h
    have ih := less_dg l r hl
    have e1 : M.dg (c :: l) = c.toNat * 256 ^ l.length + M.dg l := by
      have : M.dg (c :: l) = M.dgA (0 * 256 + c.toNat) l := rfl
      rw [this, M.dgA_eq, Nat.zero_mul, Nat.zero_add]
    have e2 : M.dg (d :: r) = d.toNat * 256 ^ l.length + M.dg r := by
      have : M.dg (d :: r) = M.dgA (0 * 256 + d.toNat) r := rfl
      rw [this, M.dgA_eq, Nat.zero_mul, Nat.zero_add, hl]
    have b1 := M.dg_lt l
    have b2 := M.dg_lt r
    rw [← hl] at b2
    rw [less_cons, ih, e1, e2]
    generalize 256 ^ l.length = p at *
    generalize M.dg l = x at *
    generalize M.dg r = y at *
    rw [Bool.eq_iff_iff]
    simp only [Bool.or_eq_true, Bool.and_eq_true, decide_eq_true_eq, beq_iff_eq, UInt8.lt_iff_toNat_lt]
    rcases Nat.lt_trichotomy c.toNat d.toNat with hc | hc | hc
    · have : (c.toNat + 1) * p ≤ d.toNat * p := Nat.mul_le_mul_right _ hc
      rw [Nat.add_mul] at this
      constructor
      · intro _; omega
      · intro _; exact .inl hc
    · have hcd : c = d := UInt8.toNat.inj hc
      subst hcd
      constructor
      · rintro (h' | h')
        · omega
        · omega
      · intro h'; exact .inr ⟨rfl, by omega⟩
    · have : (d.toNat + 1) * p ≤ c.toNat * p := Nat.mul_le_mul_right _ hc
      rw [Nat.add_mul] at this
      constructor
      · rintro (h' | ⟨h', _⟩)
        · omega
        · subst h'; omega
      · intro h'; omega


set_option maxRecDepth 100000 in
set_option maxHeartbeats 2000000 in
theorem apart_a1 (m n : Int) (a b x y : List UInt8) (q : Bool) (w : World) (ha1 : 1 ≤ a.length) (ha2 : a.length ≤ 10)
    (h1 : Hid (∀ w : World, Calls Tryd.prog 13 #[.int .u64 m] w fun e w' => e = .returned (.string ⟨a.toArray⟩) ∧ Below w.heap.size w w'))
    (h2 : Hid (∀ w : World, Calls Tryd.prog 13 #[.int .u64 n] w fun e w' => e = .returned (.string ⟨b.toArray⟩) ∧ Below w.heap.size w w'))
    (h3 : Hid (∀ w : World, Calls Tryd.prog 12 #[.int .u64 m] w fun e w' => e = .returned (.string ⟨x.toArray⟩) ∧ Below w.heap.size w w'))
    (h4 : Hid (∀ w : World, Calls Tryd.prog 12 #[.int .u64 n] w fun e w' => e = .returned (.string ⟨y.toArray⟩) ∧ Below w.heap.size w w'))
    (hle : a.length ≤ b.length) (hq : (((⟨b.toArray⟩ : ByteArray).extract 0 a.length).toList == a) = q) (hmn : (m == n) = q) (hl : x.length < y.length) (hr : decide (m < n) = true) :
    Calls Tryd.prog 6 #[.int .u64 m, .int .u64 n] w fun e w' => e = .returned (.bool true) ∧ Below w.heap.size w w' := by
  go_enter Tryd.func6, Tryd.ntmps6
  go_wp2_with fail
  refine (works_any _).mono ?_
  rintro e w1 ⟨rfl, LW⟩
  go_wp2_with fail
  refine (h1.out _).mono ?_
  rintro e w2 ⟨rfl, hx⟩
  replace LW := LW.trans (hx.mono LW.size)
  clear hx
  go_wp2_with fail
  refine (h2.out _).mono ?_
  rintro e w3 ⟨rfl, hx⟩
  replace LW := LW.trans (hx.mono LW.size)
  clear hx
  go_wp2_with fail
  refine (h3.out _).mono ?_
  rintro e w4 ⟨rfl, hx⟩
  replace LW := LW.trans (hx.mono LW.size)
  clear hx
  go_wp2_with fail
  refine (h4.out _).mono ?_
  rintro e w5 ⟨rfl, hx⟩
  replace LW := LW.trans (hx.mono LW.size)
  clear hx
  go_wp2_with fail
  go_ret
  exact ⟨rfl, LW⟩

set_option maxRecDepth 100000 in
set_option maxHeartbeats 2000000 in
theorem apart_a2 (m n : Int) (a b x y : List UInt8) (q r : Bool) (w : World) (ha1 : 1 ≤ a.length) (ha2 : a.length ≤ 10)
    (h1 : Hid (∀ w : World, Calls Tryd.prog 13 #[.int .u64 m] w fun e w' => e = .returned (.string ⟨a.toArray⟩) ∧ Below w.heap.size w w'))
    (h2 : Hid (∀ w : World, Calls Tryd.prog 13 #[.int .u64 n] w fun e w' => e = .returned (.string ⟨b.toArray⟩) ∧ Below w.heap.size w w'))
    (h3 : Hid (∀ w : World, Calls Tryd.prog 12 #[.int .u64 m] w fun e w' => e = .returned (.string ⟨x.toArray⟩) ∧ Below w.heap.size w w'))
    (h4 : Hid (∀ w : World, Calls Tryd.prog 12 #[.int .u64 n] w fun e w' => e = .returned (.string ⟨y.toArray⟩) ∧ Below w.heap.size w w'))
    (hle : a.length ≤ b.length) (hq : (((⟨b.toArray⟩ : ByteArray).extract 0 a.length).toList == a) = q) (hmn : (m == n) = q) (hl : x.length = y.length) (hless : Op.bytesLess x y = r) (hr : decide (m < n) = r) :
    Calls Tryd.prog 6 #[.int .u64 m, .int .u64 n] w fun e w' => e = .returned (.bool true) ∧ Below w.heap.size w w' := by
  go_enter Tryd.func6, Tryd.ntmps6
  go_wp2_with fail
  refine (works_any _).mono ?_
  rintro e w1 ⟨rfl, LW⟩
  go_wp2_with fail
  refine (h1.out _).mono ?_
  rintro e w2 ⟨rfl, hx⟩
  replace LW := LW.trans (hx.mono LW.size)
  clear hx
  go_wp2_with fail
  refine (h2.out _).mono ?_
  rintro e w3 ⟨rfl, hx⟩
  replace LW := LW.trans (hx.mono LW.size)
  clear hx
  go_wp2_with fail
  refine (h3.out _).mono ?_
  rintro e w4 ⟨rfl, hx⟩
  replace LW := LW.trans (hx.mono LW.size)
  clear hx
  go_wp2_with fail
  refine (h4.out _).mono ?_
  rintro e w5 ⟨rfl, hx⟩
  replace LW := LW.trans (hx.mono LW.size)
  clear hx
  go_wp2_with fail
  go_ret
  exact ⟨rfl, LW⟩

set_option maxRecDepth 100000 in
set_option maxHeartbeats 2000000 in
theorem apart_a3 (m n : Int) (a b x y : List UInt8) (q : Bool) (w : World) (ha1 : 1 ≤ a.length) (ha2 : a.length ≤ 10)
    (h1 : Hid (∀ w : World, Calls Tryd.prog 13 #[.int .u64 m] w fun e w' => e = .returned (.string ⟨a.toArray⟩) ∧ Below w.heap.size w w'))
    (h2 : Hid (∀ w : World, Calls Tryd.prog 13 #[.int .u64 n] w fun e w' => e = .returned (.string ⟨b.toArray⟩) ∧ Below w.heap.size w w'))
    (h3 : Hid (∀ w : World, Calls Tryd.prog 12 #[.int .u64 m] w fun e w' => e = .returned (.string ⟨x.toArray⟩) ∧ Below w.heap.size w w'))
    (h4 : Hid (∀ w : World, Calls Tryd.prog 12 #[.int .u64 n] w fun e w' => e = .returned (.string ⟨y.toArray⟩) ∧ Below w.heap.size w w'))
    (hle : a.length ≤ b.length) (hq : (((⟨b.toArray⟩ : ByteArray).extract 0 a.length).toList == a) = q) (hmn : (m == n) = q) (hl : y.length < x.length) (hdl : decide (x.length < y.length) = false) (hr : decide (m < n) = false) :
    Calls Tryd.prog 6 #[.int .u64 m, .int .u64 n] w fun e w' => e = .returned (.bool true) ∧ Below w.heap.size w w' := by
  go_enter Tryd.func6, Tryd.ntmps6
  go_wp2_with fail
  refine (works_any _).mono ?_
  rintro e w1 ⟨rfl, LW⟩
  go_wp2_with fail
  refine (h1.out _).mono ?_
  rintro e w2 ⟨rfl, hx⟩
  replace LW := LW.trans (hx.mono LW.size)
  clear hx
  go_wp2_with fail
  refine (h2.out _).mono ?_
  rintro e w3 ⟨rfl, hx⟩
  replace LW := LW.trans (hx.mono LW.size)
  clear hx
  go_wp2_with fail
  refine (h3.out _).mono ?_
  rintro e w4 ⟨rfl, hx⟩
  replace LW := LW.trans (hx.mono LW.size)
  clear hx
  go_wp2_with fail
  refine (h4.out _).mono ?_
  rintro e w5 ⟨rfl, hx⟩
  replace LW := LW.trans (hx.mono LW.size)
  clear hx
  go_wp2_with fail
  go_ret
  exact ⟨rfl, LW⟩

set_option maxRecDepth 100000 in
set_option maxHeartbeats 2000000 in
theorem apart_b1 (m n : Int) (a b x y : List UInt8) (w : World) (ha1 : 1 ≤ a.length) (ha2 : a.length ≤ 10)
    (h1 : Hid (∀ w : World, Calls Tryd.prog 13 #[.int .u64 m] w fun e w' => e = .returned (.string ⟨a.toArray⟩) ∧ Below w.heap.size w w'))
    (h2 : Hid (∀ w : World, Calls Tryd.prog 13 #[.int .u64 n] w fun e w' => e = .returned (.string ⟨b.toArray⟩) ∧ Below w.heap.size w w'))
    (h3 : Hid (∀ w : World, Calls Tryd.prog 12 #[.int .u64 m] w fun e w' => e = .returned (.string ⟨x.toArray⟩) ∧ Below w.heap.size w w'))
    (h4 : Hid (∀ w : World, Calls Tryd.prog 12 #[.int .u64 n] w fun e w' => e = .returned (.string ⟨y.toArray⟩) ∧ Below w.heap.size w w'))
    (hle : b.length < a.length) (hl : x.length < y.length) (hr : decide (m < n) = true) :
    Calls Tryd.prog 6 #[.int .u64 m, .int .u64 n] w fun e w' => e = .returned (.bool true) ∧ Below w.heap.size w w' := by
  go_enter Tryd.func6, Tryd.ntmps6
  go_wp2_with fail
  refine (works_any _).mono ?_
  rintro e w1 ⟨rfl, LW⟩
  go_wp2_with fail
  refine (h1.out _).mono ?_
  rintro e w2 ⟨rfl, hx⟩
  replace LW := LW.trans (hx.mono LW.size)
  clear hx
  go_wp2_with fail
  refine (h2.out _).mono ?_
  rintro e w3 ⟨rfl, hx⟩
  replace LW := LW.trans (hx.mono LW.size)
  clear hx
  go_wp2_with fail
  refine (h3.out _).mono ?_
  rintro e w4 ⟨rfl, hx⟩
  replace LW := LW.trans (hx.mono LW.size)
  clear hx
  go_wp2_with fail
  refine (h4.out _).mono ?_
  rintro e w5 ⟨rfl, hx⟩
  replace LW := LW.trans (hx.mono LW.size)
  clear hx
  go_wp2_with fail
  go_ret
  exact ⟨rfl, LW⟩

set_option maxRecDepth 100000 in
set_option maxHeartbeats 2000000 in
theorem apart_b2 (m n : Int) (a b x y : List UInt8) (r : Bool) (w : World) (ha1 : 1 ≤ a.length) (ha2 : a.length ≤ 10)
    (h1 : Hid (∀ w : World, Calls Tryd.prog 13 #[.int .u64 m] w fun e w' => e = .returned (.string ⟨a.toArray⟩) ∧ Below w.heap.size w w'))
    (h2 : Hid (∀ w : World, Calls Tryd.prog 13 #[.int .u64 n] w fun e w' => e = .returned (.string ⟨b.toArray⟩) ∧ Below w.heap.size w w'))
    (h3 : Hid (∀ w : World, Calls Tryd.prog 12 #[.int .u64 m] w fun e w' => e = .returned (.string ⟨x.toArray⟩) ∧ Below w.heap.size w w'))
    (h4 : Hid (∀ w : World, Calls Tryd.prog 12 #[.int .u64 n] w fun e w' => e = .returned (.string ⟨y.toArray⟩) ∧ Below w.heap.size w w'))
    (hle : b.length < a.length) (hl : x.length = y.length) (hless : Op.bytesLess x y = r) (hr : decide (m < n) = r) :
    Calls Tryd.prog 6 #[.int .u64 m, .int .u64 n] w fun e w' => e = .returned (.bool true) ∧ Below w.heap.size w w' := by
  go_enter Tryd.func6, Tryd.ntmps6
  go_wp2_with fail
  refine (works_any _).mono ?_
  rintro e w1 ⟨rfl, LW⟩
  go_wp2_with fail
  refine (h1.out _).mono ?_
  rintro e w2 ⟨rfl, hx⟩
  replace LW := LW.trans (hx.mono LW.size)
  clear hx
  go_wp2_with fail
  refine (h2.out _).mono ?_
  rintro e w3 ⟨rfl, hx⟩
  replace LW := LW.trans (hx.mono LW.size)
  clear hx
  go_wp2_with fail
  refine (h3.out _).mono ?_
  rintro e w4 ⟨rfl, hx⟩
  replace LW := LW.trans (hx.mono LW.size)
  clear hx
  go_wp2_with fail
  refine (h4.out _).mono ?_
  rintro e w5 ⟨rfl, hx⟩
  replace LW := LW.trans (hx.mono LW.size)
  clear hx
  go_wp2_with fail
  go_ret
  exact ⟨rfl, LW⟩

set_option maxRecDepth 100000 in
set_option maxHeartbeats 2000000 in
theorem apart_b3 (m n : Int) (a b x y : List UInt8) (w : World) (ha1 : 1 ≤ a.length) (ha2 : a.length ≤ 10)
    (h1 : Hid (∀ w : World, Calls Tryd.prog 13 #[.int .u64 m] w fun e w' => e = .returned (.string ⟨a.toArray⟩) ∧ Below w.heap.size w w'))
    (h2 : Hid (∀ w : World, Calls Tryd.prog 13 #[.int .u64 n] w fun e w' => e = .returned (.string ⟨b.toArray⟩) ∧ Below w.heap.size w w'))
    (h3 : Hid (∀ w : World, Calls Tryd.prog 12 #[.int .u64 m] w fun e w' => e = .returned (.string ⟨x.toArray⟩) ∧ Below w.heap.size w w'))
    (h4 : Hid (∀ w : World, Calls Tryd.prog 12 #[.int .u64 n] w fun e w' => e = .returned (.string ⟨y.toArray⟩) ∧ Below w.heap.size w w'))
    (hle : b.length < a.length) (hl : y.length < x.length) (hdl : decide (x.length < y.length) = false) (hr : decide (m < n) = false) :
    Calls Tryd.prog 6 #[.int .u64 m, .int .u64 n] w fun e w' => e = .returned (.bool true) ∧ Below w.heap.size w w' := by
  go_enter Tryd.func6, Tryd.ntmps6
  go_wp2_with fail
  refine (works_any _).mono ?_
  rintro e w1 ⟨rfl, LW⟩
  go_wp2_with fail
  refine (h1.out _).mono ?_
  rintro e w2 ⟨rfl, hx⟩
  replace LW := LW.trans (hx.mono LW.size)
  clear hx
  go_wp2_with fail
  refine (h2.out _).mono ?_
  rintro e w3 ⟨rfl, hx⟩
  replace LW := LW.trans (hx.mono LW.size)
  clear hx
  go_wp2_with fail
  refine (h3.out _).mono ?_
  rintro e w4 ⟨rfl, hx⟩
  replace LW := LW.trans (hx.mono LW.size)
  clear hx
  go_wp2_with fail
  refine (h4.out _).mono ?_
  rintro e w5 ⟨rfl, hx⟩
  replace LW := LW.trans (hx.mono LW.size)
  clear hx
  go_wp2_with fail
  go_ret
  exact ⟨rfl, LW⟩

theorem dg_longer {c : UInt8} {r l : List UInt8} (hc : c ≠ 0) (h : l.length ≤ r.length) : M.dg l < M.dg (c :: r) := by
  have e : M.dg (c :: r) = M.dgA (0 * 256 + c.toNat) r := rfl
  rw [e, M.dgA_eq]
  have hc1 : 1 ≤ c.toNat := by
    rcases Nat.eq_zero_or_pos c.toNat with h0 | h0
    · exact absurd (UInt8.toNat.inj (by simpa using h0)) hc
    · exact h0
  have h1 := M.dg_lt l
  have h2 : 256 ^ l.length ≤ 256 ^ r.length := Nat.pow_le_pow_right (by omega) h
  have h3 : 1 * 256 ^ r.length ≤ (0 * 256 + c.toNat) * 256 ^ r.length := Nat.mul_le_mul_right _ (by omega)
  omega

theorem tr_longer {m n : Nat} (hm : M.In m) (hn : M.In n) (h : (M.tr (M.f32 m)).length < (M.tr (M.f32 n)).length) : m < n := by
  have e1 := M.dg_tr (M.f32 m)
  have e2 := M.dg_tr (M.f32 n)
  rw [M.dg_f32 hm] at e1
  rw [M.dg_f32 hn] at e2
  match ht : M.tr (M.f32 n) with
  | [] => rw [ht] at h; simp at h
  | c :: r =>
    rw [ht] at h e2
    rw [← e1, ← e2]
    exact dg_longer (M.tr_head _ c r ht) (by simp at h; omega)

theorem napart_any (m n : Nat) (w : World) (hm : m < 18446744073709551616) (hn : n < 18446744073709551616) :
    Calls Tryd.prog 6 #[.int .u64 m, .int .u64 n] w fun e w' => e = .returned (.bool true) ∧ Below w.heap.size w w' := by
  have h1 : Hid (∀ w : World, Calls Tryd.prog 13 #[.int .u64 m] w fun e w' => e = .returned (.string ⟨(M.vrn m).toArray⟩) ∧ Below w.heap.size w w') := Lib.hid fun w => var_any m w hm
  have h2 : Hid (∀ w : World, Calls Tryd.prog 13 #[.int .u64 n] w fun e w' => e = .returned (.string ⟨(M.vrn n).toArray⟩) ∧ Below w.heap.size w w') := Lib.hid fun w => var_any n w hn
  have h3 : Hid (∀ w : World, Calls Tryd.prog 12 #[.int .u64 m] w fun e w' => e = .returned (.string ⟨(M.tr (M.f32 m)).toArray⟩) ∧ Below w.heap.size w w') := Lib.hid fun w => nbe_any m w hm
  have h4 : Hid (∀ w : World, Calls Tryd.prog 12 #[.int .u64 n] w fun e w' => e = .returned (.string ⟨(M.tr (M.f32 n)).toArray⟩) ∧ Below w.heap.size w w') := Lib.hid fun w => nbe_any n w hn
  have a1 := (M.vrn_length m).1
  have a2 := (M.vrn_length m).2
  have hcut : (vr : List UInt8) → (k : Nat) → ((⟨vr.toArray⟩ : ByteArray).extract 0 k).toList = vr.take k := fun vr k => by
    rw [Lib.extract_toList]
    simp
  have hmn : (((m : Int) == (n : Int)) : Bool) = decide (m = n) := by
    by_cases h : m = n
    · simp [h]
    · simp [h]
      omega
  have hq : (((⟨(M.vrn n).toArray⟩ : ByteArray).extract 0 (M.vrn m).length).toList == M.vrn m) = decide (m = n) := by
    rw [hcut]
    by_cases h : m = n
    · subst h
      simp
    · rw [decide_eq_false h, beq_eq_false_iff_ne]
      exact fun e => h (M.vrn_apart hm hn e)
  have hlt : ∀ r : Bool, decide (m < n) = r → decide ((m : Int) < (n : Int)) = r := fun r hr => by rw [← hr, decide_eq_decide]; omega
  rcases Nat.lt_trichotomy (M.tr (M.f32 m)).length (M.tr (M.f32 n)).length with hl | hl | hl
  · have hr := hlt true (by simpa using tr_longer (M.in64 hm) (M.in64 hn) hl)
    rcases Nat.lt_or_ge (M.vrn n).length (M.vrn m).length with h | h
    · exact apart_b1 m n _ _ _ _ w a1 a2 h1 h2 h3 h4 h hl hr
    · exact apart_a1 m n _ _ _ _ _ w a1 a2 h1 h2 h3 h4 h hq hmn hl hr
  · have hr := hlt _ rfl
    have hless : Op.bytesLess (M.tr (M.f32 m)) (M.tr (M.f32 n)) = decide (m < n) := by
      rw [less_dg _ _ hl, M.dg_tr, M.dg_tr, M.dg_f32 (M.in64 hm), M.dg_f32 (M.in64 hn)]
    rcases Nat.lt_or_ge (M.vrn n).length (M.vrn m).length with h | h
    · exact apart_b2 m n _ _ _ _ _ w a1 a2 h1 h2 h3 h4 h hl hless hr
    · exact apart_a2 m n _ _ _ _ _ _ w a1 a2 h1 h2 h3 h4 h hq hmn hl hless hr
  · have hr := hlt false (by have := tr_longer (M.in64 hn) (M.in64 hm) hl; simp; omega)
    rcases Nat.lt_or_ge (M.vrn n).length (M.vrn m).length with h | h
    · exact apart_b3 m n _ _ _ _ w a1 a2 h1 h2 h3 h4 h hl (by simp; omega) hr
    · exact apart_a3 m n _ _ _ _ _ w a1 a2 h1 h2 h3 h4 h hq hmn hl (by simp; omega) hr

theorem napart_at (x y : Int) (w : World) (hx : (Lit.int .u64 x).wf = true) (hy : (Lit.int .u64 y).wf = true) :
    Calls Tryd.prog 6 #[.int .u64 x, .int .u64 y] w fun e w' => e = .returned (.bool true) ∧ Below w.heap.size w w' := by
  have hb := bounds_u64 hx
  have hc := bounds_u64 hy
  obtain ⟨m, rfl⟩ := Int.eq_ofNat_of_zero_le hb.1
  obtain ⟨n, rfl⟩ := Int.eq_ofNat_of_zero_le hc.1
  exact napart_any m n w (by omega) (by omega)
end Go.Proofs.YtmcchfgblecgoaaDoor
