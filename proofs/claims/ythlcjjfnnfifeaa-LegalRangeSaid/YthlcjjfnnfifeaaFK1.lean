/- Schedules, plainly: the times that a schedule has are a list of whole numbers. -/
import Derived.Test.YthlcjjfnnfifeaaA0
import Derived.Lib.Hide
namespace Go.Proofs.Ythlcjjfnnfifeaa
open Go Go.RowKit
namespace M
/-- The time at a place. -/
def gi (xs : List Int) (i : Nat) : Int := xs.getD i 0
/-- Does none stand below the one ahead? -/
def srt (xs : List Int) : Bool := (List.range (xs.length - 1)).all fun i => decide (gi xs i ≤ gi xs (i + 1))
/-- The error of a schedule. -/
def chkE (xs : List Int) : Int := if xs.length < 1 ∨ 6 < xs.length then 2 else if srt xs then 0 else 11
/-- How many have begun. -/
def beg (xs : List Int) (t : Int) : Nat := xs.countP fun x => decide (x ≤ t)
/-- The fork at a time, and the error. -/
def actV (xs : List Int) (t : Int) : Int := if chkE xs = 0 then ((beg xs t - 1 : Nat) : Int) else 0
def actE (xs : List Int) (t : Int) : Int := if chkE xs = 0 then (if beg xs t = 0 then 10 else 0) else chkE xs
/-- When a fork begins, and the error. -/
def frmV (xs : List Int) (f : Int) : Int := if chkE xs = 0 then (if f < 0 ∨ (xs.length : Int) ≤ f then 0 else gi xs f.toNat) else 0
def frmE (xs : List Int) (f : Int) : Int := if chkE xs = 0 then (if f < 0 ∨ (xs.length : Int) ≤ f then 10 else 0) else chkE xs
/-- Those of the first n forks that are ever active. -/
def evn (xs : List Int) (n : Nat) : List Int := ((List.range n).filter fun f : Nat => beg xs (gi xs f) == f + 1).map fun f : Nat => (f : Int)
def evr (xs : List Int) : List Int := if chkE xs = 0 then evn xs xs.length else []

theorem chkE_cases (xs : List Int) : (chkE xs = 0 ∧ 1 ≤ xs.length ∧ xs.length ≤ 6 ∧ srt xs = true) ∨ (chkE xs = 2 ∧ (xs.length < 1 ∨ 6 < xs.length)) ∨ (chkE xs = 11 ∧ 1 ≤ xs.length ∧ xs.length ≤ 6 ∧ srt xs = false) := by
  unfold chkE
  by_cases h : xs.length < 1 ∨ 6 < xs.length
  · rw [if_pos h]; exact .inr (.inl ⟨rfl, h⟩)
  · rw [if_neg h]
    cases hs : srt xs
    · exact .inr (.inr ⟨by simp, by omega, by omega, rfl⟩)
    · exact .inl ⟨by simp, by omega, by omega, rfl⟩
theorem chkE_zero {xs : List Int} (h : chkE xs = 0) : 1 ≤ xs.length ∧ xs.length ≤ 6 ∧ srt xs = true := by
  rcases chkE_cases xs with ⟨_, h1⟩ | ⟨h1, _⟩ | ⟨h1, _⟩
  · exact h1
  · rw [h] at h1; cases h1
  · rw [h] at h1; cases h1
theorem gi_some {xs : List Int} {i : Nat} (h : i < xs.length) : xs[i]? = some (gi xs i) := by
  unfold gi; rw [List.getD_eq_getElem?_getD, List.getElem?_eq_getElem h]; rfl
theorem gi_get {xs : List Int} {i : Nat} (h : i < xs.length) : gi xs i = xs[i] := by
  have := gi_some h
  rw [List.getElem?_eq_getElem h] at this
  exact (Option.some.inj this).symm
theorem srt_le {xs : List Int} (h : srt xs = true) : ∀ d i, i + d < xs.length → gi xs i ≤ gi xs (i + d)
  | 0, i, _ => Int.le_refl _
  | d + 1, i, hd => by
    have h1 := srt_le h d i (by omega)
    have h2 : gi xs (i + d) ≤ gi xs (i + d + 1) := by
      have := List.all_eq_true.1 h (i + d) (List.mem_range.2 (by omega))
      simpa using this
    exact Int.le_trans h1 h2
theorem srt_mono {xs : List Int} (h : srt xs = true) {i j : Nat} (hij : i ≤ j) (hj : j < xs.length) : gi xs i ≤ gi xs j := by
  have := srt_le h (j - i) i (by omega)
  rwa [show i + (j - i) = j by omega] at this
/-- How many have begun, by places. -/
theorem beg_at (t : Int) : ∀ (xs : List Int), (∀ i j, i ≤ j → j < xs.length → gi xs i ≤ gi xs j) → ∀ i, i < xs.length → (t < gi xs i ↔ beg xs t ≤ i)
  | [], _, i, h => by simp at h
  | x :: l, hs, i, hi => by
    have hl : ∀ i j, i ≤ j → j < l.length → gi l i ≤ gi l j := fun i j h1 h2 => hs (i + 1) (j + 1) (by omega) (by simp; omega)
    have hb : beg (x :: l) t = beg l t + if x ≤ t then 1 else 0 := by
      unfold beg; rw [List.countP_cons]; simp
    rw [hb]
    by_cases hx : x ≤ t
    · rw [if_pos hx]
      cases i with
      | zero => exact ⟨fun h => absurd h (by show ¬ t < x; omega), fun h => absurd h (by omega)⟩
      | succ i =>
        have := beg_at t l hl i (by simpa using hi)
        show t < gi l i ↔ _
        rw [this]; omega
    · rw [if_neg hx]
      have h0 : beg l t = 0 := by
        unfold beg
        rw [List.countP_eq_zero]
        intro y hy
        obtain ⟨j, hj, rfl⟩ := List.getElem_of_mem hy
        have := hs 0 (j + 1) (by omega) (by simp; omega)
        have e1 : gi (x :: l) 0 = x := rfl
        have e2 : gi (x :: l) (j + 1) = l[j] := by rw [gi_get (by simp; omega)]; rfl
        rw [e1, e2] at this
        simp; omega
      have := hs 0 i (by omega) hi
      have e1 : gi (x :: l) 0 = x := rfl
      rw [e1] at this
      constructor
      · intro _; omega
      · intro _; omega
theorem beg_iff {xs : List Int} (h : srt xs = true) (t : Int) {i : Nat} (hi : i < xs.length) : t < gi xs i ↔ beg xs t ≤ i :=
  beg_at t xs (fun _ _ => srt_mono h) i hi
theorem beg_le (xs : List Int) (t : Int) : beg xs t ≤ xs.length := List.countP_le_length
theorem beg_mono (xs : List Int) {t u : Int} (h : t ≤ u) : beg xs t ≤ beg xs u :=
  List.countP_mono_left fun x _ hx => by simp at hx ⊢; omega
theorem beg_self {xs : List Int} (h : srt xs = true) {i : Nat} (hi : i < xs.length) : i < beg xs (gi xs i) := by
  have := beg_iff h (gi xs i) hi
  have := Int.lt_irrefl (gi xs i)
  omega
theorem evn_zero (xs : List Int) : evn xs 0 = [] := rfl
theorem evn_succ (xs : List Int) (n : Nat) : evn xs (n + 1) = evn xs n ++ if beg xs (gi xs n) = n + 1 then [(n : Int)] else [] := by
  unfold evn
  rw [List.range_succ, List.filter_append, List.map_append]
  by_cases h : beg xs (gi xs n) = n + 1
  · simp [h]
  · simp [h]
theorem evn_len (xs : List Int) (n : Nat) : (evn xs n).length ≤ n := by
  unfold evn
  rw [List.length_map]
  exact Nat.le_trans (List.length_filter_le _ _) (by simp)
theorem evn_mem {xs : List Int} {n : Nat} {x : Int} (h : x ∈ evn xs n) : ∃ f : Nat, x = f ∧ f < n ∧ beg xs (gi xs f) = f + 1 := by
  unfold evn at h
  obtain ⟨f, hf, rfl⟩ := List.mem_map.1 h
  rw [List.mem_filter] at hf
  exact ⟨f, rfl, List.mem_range.1 hf.1, by simpa using hf.2⟩
theorem evn_in {xs : List Int} {n f : Nat} (h : f < n) (hb : beg xs (gi xs f) = f + 1) : (f : Int) ∈ evn xs n := by
  unfold evn
  exact List.mem_map.2 ⟨f, List.mem_filter.2 ⟨List.mem_range.2 h, by simpa using hb⟩, rfl⟩
theorem evn_up (xs : List Int) (n : Nat) : (evn xs n).Pairwise (· < ·) := by
  unfold evn
  rw [List.pairwise_map]
  exact (List.Pairwise.filter _ List.pairwise_lt_range).imp fun h => by omega
end M

/-- What a row of numbers leads to. -/
inductive Ns (w : World) (n : Nat) : List Int → Value → Prop
  | nil_ {a : Option Addr} {cap : Nat} (hm : cap ≤ maxLen) : Ns w n [] (.slice a 0 cap)
  | row {xs : List Int} {b o cap : Nat} (hb : b < n) (hc : xs.length ≤ cap) (hm : cap ≤ maxLen)
      (c : ∀ i x, xs[i]? = some x → w.cell? ⟨b, o + i, none⟩ = some (.int .u64 x)) : Ns w n xs (.slice (some ⟨b, o, none⟩) xs.length cap)
theorem Ns.from_ {w W : World} {n : Nat} {xs : List Int} {v : Value} (h : Ns w n xs v) (hb : Below n w W) : Ns W n xs v := by
  cases h with
  | nil_ hm => exact .nil_ hm
  | row hbn hc hm c => exact .row hbn hc hm fun i s e => (hb.cell (p := ⟨_, _, none⟩) hbn).trans (c i s e)
theorem Ns.mono {w : World} {m n : Nat} {xs : List Int} {v : Value} (h : Ns w m xs v) (hmn : m ≤ n) : Ns w n xs v := by
  cases h with
  | nil_ hm => exact .nil_ hm
  | row hbn hc hm c => exact .row (Nat.lt_of_lt_of_le hbn hmn) hc hm c
theorem Ns.slice {w : World} {n : Nat} {xs : List Int} {v : Value} (h : Ns w n xs v) : ∃ a cap, v = .slice a xs.length cap ∧ xs.length ≤ cap ∧ cap ≤ maxLen := by
  cases h with
  | nil_ hm => exact ⟨_, _, rfl, Nat.zero_le _, hm⟩
  | row hbn hc hm c => exact ⟨_, _, rfl, hc, hm⟩
/-- A row that is not empty, by its cells. -/
theorem Ns.cells {w : World} {n : Nat} {xs : List Int} {a : Option Addr} {m cap : Nat} (h : Ns w n xs (.slice a m cap)) (h1 : 1 ≤ xs.length) : ∃ b o, a = some ⟨b, o, none⟩ ∧ b < n ∧ ∀ i, i < xs.length → w.cell? ⟨b, o + i, none⟩ = some (.int .u64 (M.gi xs i)) := by
  cases h with
  | nil_ hm => simp at h1
  | row hbn hc hm c => exact ⟨_, _, rfl, hbn, fun i hi => c i _ (M.gi_some hi)⟩
/-- A schedule as a value. -/
abbrev sch (v : Value) : Value := .agg #[v]
end Go.Proofs.Ythlcjjfnnfifeaa
