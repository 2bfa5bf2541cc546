/- num.digits: a number's digits of 7 or 8 bits, the lowest ones first. num.digits: what its function tells, one digit after the other. A range over num.digits: what the body does with one digit, and what holds when all have come. The contract of num.Le: a number's bytes, the lowest ones first. The landed package ssz: lowest, offset. Plain: bits, one by one. The landed package ssz: putBits. -/
import Derived.Test.YtaajkbclojmbeaaGreatDoorI12
import Derived.Test.YtaajkbclojmbeaaGreatDoorF1i
import Derived.Test.YtaajkbclojmbeaaGreatDoorI10
import Derived.IntWalk
import Derived.Laws.Bits64b
import Derived.Test.YtaajkbclojmbeaaGreatDoorI02
import Derived.Deep.OwnRows
import Derived.Laws.BytesArg
import Derived.Test.YtaajkbclojmbeaaGreatDoorI01
import Derived.Test.YtaajkbclojmbeaaGreatDoorI05
import Derived.Laws.OwnMore
import Derived.RangeFuncBox
import Derived.Test.YtaajkbclojmbeaaGreatDoorI11
namespace Go.Proofs.YtaajkbclojmbeaaGreatDoor
open Go Go.RowKit Go.Shelf
attribute [local go_sem] Oper.semAt_some

theorem digits_in (n : Nat) (N s : Int) (w : World) :
    CallsIn Fence.wide n Tryz.prog 72 #[.int .u64 N, .int .i64 s] w fun e w' =>
      e = .returned (.func (.func 134) #[] #[.pointer (some ⟨w.heap.size, 0, none⟩), .pointer (some ⟨w.heap.size + 1, 0, none⟩)]) ∧ w' = (w.alloc (.cells #[.int .u64 N] 23)).alloc (.cells #[.int .i64 s] 3) := by
  refine callsIn_of_wp Tryz.func72 rfl trivial ?_ rfl
  simp only [Tryz.ntmps72, List.size_toArray, List.length_cons, List.length_nil, Nat.reduceAdd, Nat.reduceSub, Array.replicate_succ, Array.replicate_zero, List.push_toArray, List.append_toArray, List.nil_append, List.cons_append]
  gi_wp2
  go_ret
  exact ⟨rfl, rfl⟩

set_option maxRecDepth 100000 in
set_option maxHeartbeats 8000000 in
theorem digits_reg (n l bn bs j : Nat) (N s q V m m1 d : Int) (W : World) (t3 t5 t6 t7 t8 t9 t10 t11 t12 t13 t14 t15 t16 t17 t18 t19 t20 t21 t22 t23 t24 t25 t26 t27 t28 t29 t30 : Value) (c : Code) (hcode : Tryz.f134.body.bind (regAt 3) = some c)
    (R : World → Prop) (cn : W.cell? ⟨bn, 0, none⟩ = some (.int .u64 N)) (cs : W.cell? ⟨bs, 0, none⟩ = some (.int .i64 s)) (hq : IntKind.i64.wrap (s * j) = q) (hq0 : 0 ≤ q) (hs0 : 0 ≤ s) (hs1 : s ≤ 8) (hV : N / 2 ^ min q.toNat 64 = V) (hm : IntKind.u64.wrap (2 ^ s.toNat) = m) (hm1 : IntKind.u64.wrap (m - 1) = m1) (hd : bits BinOp.and IntKind.u64 V m1 = d) (hd8 : IntKind.u8.wrap d = d)
    (hY : YieldAt Fence.wide n Tryz.prog l #[.int .i64 j, .int .u8 d] W.drew fun e W' => e = .returned (.bool true) ∧ R W') :
    c.wpIn Fence.wide (n + 1) Tryz.prog (nrm fun b U => (∃ t17 t18 t19 t20 t21 t22 t23 t24 t25 t26 t27 t28, b = { tmps := #[.func (.yield l) #[] #[], .pointer (some ⟨bn, 0, none⟩), .pointer (some ⟨bs, 0, none⟩), t3, .int .i64 j, t5, t6, t7, t8, t9, t10, t11, t12, t13, t14, t15, t16, t17, t18, t19, t20, t21, t22, t23, t24, t25, t26, t27, t28, .bool true, .bool false], defers := [] }) ∧ R U)
      { tmps := #[.func (.yield l) #[] #[], .pointer (some ⟨bn, 0, none⟩), .pointer (some ⟨bs, 0, none⟩), t3, .int .i64 j, t5, t6, t7, t8, t9, t10, t11, t12, t13, t14, t15, t16, t17, t18, t19, t20, t21, t22, t23, t24, t25, t26, t27, t28, t29, t30], defers := [] } W := by
  simp only [Tryz.f134, Option.bind_some, regAt, Option.some_or, Option.none_or, if_true, if_false, Nat.reduceEqDiff, Option.some.injEq] at hcode
  subst hcode
  have hro : Fence.wide.round = none := rfl
  have mixed : Tryz.prog.follows .mixedOrders = true := by kernel_rfl
  obtain ⟨fn, tmps, assign, body, hy, hR⟩ := hY
  gi_region_with (refine hR.mono ?_; rintro e W' ⟨rfl, hW'⟩)
  all_goals exact ⟨⟨_, _, _, _, _, _, _, _, _, _, _, _, rfl⟩, hW'⟩
end Go.Proofs.YtaajkbclojmbeaaGreatDoor
namespace Go.Proofs.YtaajkbclojmbeaaGreatDoor
open Go Go.RowKit Go.Shelf
attribute [local go_sem] Oper.semAt_some

/-- Digit i of S bits. -/
def digN (S N i : Nat) : Nat := N / 2 ^ (S * i) % 2 ^ S

theorem mask_is (S : Nat) (hS : S = 7 ∨ S = 8) : IntKind.u64.wrap (2 ^ (S : Int).toNat) = ((2 ^ S : Nat) : Int) ∧ IntKind.u64.wrap (((2 ^ S : Nat) : Int) - 1) = ((2 ^ S - 1 : Nat) : Int) := by
  rcases hS with rfl | rfl <;> decide

theorem shift_is (S N j : Nat) (hN : N < 18446744073709551616) : (N : Int) / 2 ^ min ((S * j : Nat) : Int).toNat 64 = ((N / 2 ^ (S * j) : Nat) : Int) := by
  rw [Int.toNat_natCast]
  rcases Nat.le_total (S * j) 64 with h | h
  · rw [Nat.min_eq_left h]
    simp
  · rw [Nat.min_eq_right h]
    have e1 : N / 2 ^ (S * j) = 0 := Nat.div_eq_of_lt (Nat.lt_of_lt_of_le hN (show 2 ^ 64 ≤ 2 ^ (S * j) from Nat.pow_le_pow_right (by omega) h))
    rw [e1]
    omega

theorem digit_is (S N j : Nat) (hS : S = 7 ∨ S = 8) (hN : N < 18446744073709551616) : bits BinOp.and IntKind.u64 ((N / 2 ^ (S * j) : Nat) : Int) ((2 ^ S - 1 : Nat) : Int) = ((digN S N j : Nat) : Int) := by
  have h1 : N / 2 ^ (S * j) < 18446744073709551616 := Nat.lt_of_le_of_lt (Nat.div_le_self _ _) hN
  rw [bits_and_u64_nat _ _ h1 (by rcases hS with rfl | rfl <;> decide), Nat.and_two_pow_sub_one_eq_mod]
  rfl

theorem digN_lt (S N j : Nat) (hS : S = 7 ∨ S = 8) : digN S N j < 256 := by
  unfold digN
  rcases hS with rfl | rfl <;> omega

theorem step_is (S j : Nat) (hS : S = 7 ∨ S = 8) (hj : j ≤ 10) : IntKind.i64.wrap ((S : Int) * (j : Int)) = ((S * j : Nat) : Int) := by
  have h : (S : Int) * (j : Int) = ((S * j : Nat) : Int) := by simp
  rw [h]
  have h2 : S * j ≤ 80 := by rcases hS with rfl | rfl <;> omega
  generalize S * j = q at h2
  exact IntWalk.i64_in _ (by omega)

set_option maxRecDepth 100000 in
set_option maxHeartbeats 4000000 in
theorem digits_run (n N k S : Nat) (s : Int) (hs : s = S) (hS : S = 7 ∨ S = 8) (hN : N < 18446744073709551616) (hk1 : 1 ≤ k) (hk : k ≤ 10) (hne : ∀ i, 1 ≤ i → i < k → N / 2 ^ (S * i) ≠ 0) (hz : N / 2 ^ (S * k) = 0) (l bn bs : Nat) (J : List Nat → World → Prop)
    (hJ : ∀ pre W, J pre W → W.cell? ⟨bn, 0, none⟩ = some (.int .u64 N) ∧ W.cell? ⟨bs, 0, none⟩ = some (.int .i64 s)) (hd : ∀ pre W, J pre W → J pre W.drew)
    (hY : ∀ i W, i < k → J (List.range i) W → YieldAt Fence.wide n Tryz.prog l #[.int .i64 i, .int .u8 ((digN S N i : Nat) : Int)] W fun e W' => e = .returned (.bool true) ∧ J (List.range (i + 1)) W')
    (W : World) (h0 : J [] W) :
    CallsIn Fence.wide (n + 1) Tryz.prog 134 #[.func (.yield l) #[] #[], .pointer (some ⟨bn, 0, none⟩), .pointer (some ⟨bs, 0, none⟩)] W fun e W' => (∃ v, e = .returned v) ∧ J (List.range k) W' := by
  have HN := Lib.hid hne
  have HZ := Lib.hid hz
  have HJ := Lib.hid hJ
  have HD := Lib.hid hd
  have HS := Lib.hid hS
  have HE := Lib.hid hs
  have HL := Lib.hid hN
  have HY := Lib.hid hY
  clear hne hz hJ hd hS hs hN hY
  have hro : Fence.wide.round = none := rfl
  refine callsIn_of_wp Tryz.func134 rfl trivial ?_ rfl
  simp only [Tryz.ntmps134, List.size_toArray, List.length_cons, List.length_nil, Nat.reduceAdd, Nat.reduceSub, Array.replicate_succ, Array.replicate_zero, List.push_toArray, List.append_toArray, List.nil_append, List.cons_append]
  gi_wp2
  gi_loopw [4] (fun i wr => ∃ j : Nat, j ≤ k ∧ i = .int .i64 j ∧ J (List.range j) wr) (fun i _ => k - (intOf i).toNat)
  case atStart => exact ⟨0, Nat.zero_le _, rfl, h0⟩
  case round =>
    obtain ⟨j, hj, rfl, hJs⟩ := hrel
    obtain ⟨cn, cs⟩ := HJ.out _ _ hJs
    obtain ⟨q, hq⟩ : ∃ q, q = ((S * j : Nat) : Int) := ⟨_, rfl⟩
    obtain ⟨V, hV⟩ : ∃ V, V = ((N / 2 ^ (S * j) : Nat) : Int) := ⟨_, rfl⟩
    have f1 : IntKind.i64.wrap (s * (j : Int)) = q := by rw [HE.out, hq]; exact step_is S j HS.out (by omega)
    have f2 : (N : Int) / 2 ^ min q.toNat 64 = V := by rw [hq, hV]; exact shift_is S N j HL.out
    have f3 : 0 ≤ q := by rw [hq]; omega
    have HQ := Lib.hid hq
    have HV := Lib.hid hV
    clear hq hV
    by_cases hlt : j < k
    · have fin := digits_reg n l bn bs j N s q V ((2 ^ S : Nat) : Int) ((2 ^ S - 1 : Nat) : Int) ((digN S N j : Nat) : Int) wr
      by_cases hj0 : j = 0
      · have hb : (((j : Nat) : Int) == 0) = true := by simp; omega
        gi_wp2
        refine wpIn_mono' (fin _ _ _ _ _ _ _ _ _ _ _ _ _ _ _ _ _ _ _ _ _ _ _ _ _ _ _ _ (by kernel_rfl) _ cn cs f1 f3 (by rcases HS.out with h | h <;> rw [HE.out, h] <;> decide) (by rcases HS.out with h | h <;> rw [HE.out, h] <;> decide) f2 (by rw [HE.out]; exact (mask_is S HS.out).1) (mask_is S HS.out).2 (by rw [HV.out]; exact digit_is S N j HS.out HL.out) (by rw [wrap8_nat, Nat.mod_eq_of_lt (digN_lt S N j HS.out)]) (HY.out j wr.drew hlt (HD.out _ _ hJs))) ?_
        rintro b u ⟨⟨t17, t18, t19, t20, t21, t22, t23, t24, t25, t26, t27, t28, rfl⟩, hJ3⟩
        clear fin
        gi_wp2
        go_roundw
        case rel => exact ⟨j + 1, by omega, by simp <;> omega, hJ3⟩
        case measure => simp [intOf]; omega
      · have hb : (((j : Nat) : Int) == 0) = false := by simp; omega
        have hp : (V != 0) = true := by
          have := HN.out j (by omega) hlt
          rw [HV.out]
          simp only [bne_iff_ne, ne_eq]
          omega
        gi_wp2
        refine wpIn_mono' (fin _ _ _ _ _ _ _ _ _ _ _ _ _ _ _ _ _ _ _ _ _ _ _ _ _ _ _ _ (by kernel_rfl) _ cn cs f1 f3 (by rcases HS.out with h | h <;> rw [HE.out, h] <;> decide) (by rcases HS.out with h | h <;> rw [HE.out, h] <;> decide) f2 (by rw [HE.out]; exact (mask_is S HS.out).1) (mask_is S HS.out).2 (by rw [HV.out]; exact digit_is S N j HS.out HL.out) (by rw [wrap8_nat, Nat.mod_eq_of_lt (digN_lt S N j HS.out)]) (HY.out j wr.drew hlt (HD.out _ _ hJs))) ?_
        rintro b u ⟨⟨t17, t18, t19, t20, t21, t22, t23, t24, t25, t26, t27, t28, rfl⟩, hJ3⟩
        clear fin
        gi_wp2
        go_roundw
        case rel => exact ⟨j + 1, by omega, by simp <;> omega, hJ3⟩
        case measure => simp [intOf]; omega
    · obtain rfl : j = k := by omega
      have hb : (((j : Nat) : Int) == 0) = false := by simp; omega
      have hp : (V != 0) = false := by rw [HV.out, HZ.out]; rfl
      gi_wp2
      go_end0
      exact ⟨⟨_, rfl⟩, hJs⟩
end Go.Proofs.YtaajkbclojmbeaaGreatDoor
namespace Go.Proofs.YtaajkbclojmbeaaGreatDoor
open Go Go.RowKit Go.Shelf

theorem range_cut {m i : Nat} (h : i < m) : ∃ post, List.range m = List.range i ++ i :: post := by
  obtain ⟨k, rfl⟩ : ∃ k, m = i + (k + 1) := ⟨m - i - 1, by omega⟩
  refine ⟨(List.range k).map (fun x => i + (x + 1)), ?_⟩
  rw [List.range_add, List.range_succ_eq_map]
  simp [List.map_map, Function.comp_def]

theorem range_part {m x : Nat} {pre post : List Nat} (h : List.range m = pre ++ x :: post) : pre = List.range pre.length ∧ x = pre.length ∧ pre.length < m := by
  have hl := congrArg List.length h
  simp at hl
  have hx : (List.range m)[pre.length]? = some x := by rw [h]; simp
  rw [List.getElem?_range (by omega)] at hx
  have ht : (List.range m).take pre.length = pre := by rw [h]; simp
  rw [List.take_range, Nat.min_eq_left (by omega)] at ht
  exact ⟨ht.symm, (Option.some.inj hx).symm, by omega⟩

theorem range_digits {S N : Nat} {s : Int} (hs : s = S) (hS : S = 7 ∨ S = 8) (hN : N < 18446744073709551616) {m : Nat} (hm1 : 1 ≤ m) (hm : m ≤ 10) (hne : ∀ i, 1 ≤ i → i < m → N / 2 ^ (S * i) ≠ 0) (hz : N / 2 ^ (S * m) = 0)
    {g : Operand} {ps : Array Tmp} {assign body : Code} {Q : Exit → Act → World → Prop} {a : Act} {w : World} {bn bs : Nat}
    (hg : a.eval g = .func (.func 134) #[] #[.pointer (some ⟨bn, 0, none⟩), .pointer (some ⟨bs, 0, none⟩)]) (hps : ps.size = 2)
    (I : Nat → World → Prop) (hI : OwnFrom w.heap.size I) (hc : ∀ i W, I i W → W.cell? ⟨bn, 0, none⟩ = some (.int .u64 N) ∧ W.cell? ⟨bs, 0, none⟩ = some (.int .i64 s)) (h0 : I 0 w) (f : Nat → Array Value → Array Value)
    (hassign : ∀ (l x : Nat) (W : World) (K : Act → World → Prop), K { tmps := f x a.tmps, defers := [] } W →
      assign.wpIn (Fence.wide.inRound l) 2 Tryz.prog (Exit.then K (fun _ _ _ => False)) { tmps := (ps.zip #[.int .i64 x, .int .u8 ((digN S N x : Nat) : Int)]).foldl (fun t (p, v) => t.setIfInBounds p v) a.tmps, defers := [] } W)
    (hbody : ∀ (l i : Nat) (W : World), i < m → I i W → body.wpIn (Fence.wide.inRound l) 2 Tryz.prog (fun e _ W' => e = .normal ∧ KeepsOthers W W' ∧ I (i + 1) W') { tmps := f i a.tmps, defers := [] } W)
    (hdone : ∀ (D : Nat) (W : World), w.heap.size ≤ D → I m W → W.heap[D]? = some (.deferred (some [])) → Q .normal { a with defers := { target := .collected D, args := #[] } :: a.defers } W) :
    (Code.rangeFunc g ps assign body).wpIn Fence.wide 4 Tryz.prog Q a w := by
  refine range_all (n := 4) (by omega) hg (enters_of Tryz.func134 (by kernel_rfl) rfl) (encs := fun x : Nat => #[.int .i64 x, .int .u8 ((digN S N x : Nat) : Int)]) (fun _ => hps.symm) (List.range m)
    (fun pre W => I pre.length W) (fun pre => hI pre.length) (fun A B => A = B) (fun _ W => I m W) (fun _ => hI m) (fun A B hA e => ⟨e ▸ KeepsOthers.refl _, by rw [← e]; simpa using hA⟩) ?_ h0 (fun x => { tmps := f x a.tmps, defers := [] }) hassign ?_ hdone
  · intro l J W hJI hd hY hJ0
    refine (digits_run 2 N m S s hs hS hN hm1 hm hne hz l bn bs J (fun pre W h => hc _ _ (hJI pre W h)) hd ?_ W hJ0).mono ?_
    · intro i W1 hi hJ1
      obtain ⟨post, hp⟩ := range_cut hi
      have := hY _ i post W1 hp hJ1
      rwa [← List.range_succ] at this
    · rintro e W' ⟨hv, hj⟩
      exact ⟨hv, W', hj, rfl⟩
  · intro l pre x post W hx hi
    obtain ⟨h1, h2, h3⟩ := range_part hx
    subst h2
    rw [List.length_append, List.length_singleton]
    exact hbody l pre.length W h3 hi
end Go.Proofs.YtaajkbclojmbeaaGreatDoor
namespace Go.Proofs.YtaajkbclojmbeaaGreatDoor
open Go Go.RowKit Go.Shelf
attribute [local go_sem] Oper.semAt_some

theorem Tryz.infoByte : (Tryz.prog.info? 5).map (fun i => (i.zero, i.size, i.bytes)) = some (some (.int .u8 0), 1, 1) := by kernel_rfl

theorem made_cell (w : World) (z : Value) (k t j : Nat) (h : j < k) : (w.alloc (.cells (madeCells #[z] k) t)).cell? ⟨w.heap.size, j, none⟩ = some z ∧ (w.alloc (.cells (madeCells #[z] k) t)).frozen? ⟨w.heap.size, j, none⟩ = false := by
  refine ⟨?_, by simp [go_sem]⟩
  have : (madeCells #[z] k)[j]? = some z := by
    unfold madeCells
    simp [h, Nat.mod_one]
  simp [go_sem, this]

/-- What lies in memory when m bytes have been put. -/
structure LX (w : World) (h k N m : Nat) (W : World) : Prop where
  box : W.cell? ⟨h + 1, 0, none⟩ = some (.slice (some ⟨h, 0, none⟩) k k)
  fr : ∀ j, j < k → W.frozen? ⟨h, j, none⟩ = false
  lo : ∀ j, j < m → W.cell? ⟨h, j, none⟩ = some (.int .u8 ((digN 8 N j : Nat) : Int))
  hi : ∀ j, m ≤ j → j < k → W.cell? ⟨h, j, none⟩ = some (.int .u8 0)
  cn : W.cell? ⟨h + 2, 0, none⟩ = some (.int .u64 N)
  cs : W.cell? ⟨h + 3, 0, none⟩ = some (.int .i64 8)
  low : Below w.heap.size w W
  ge : h + 4 ≤ W.heap.size
  le : m ≤ k

theorem lx_own {w : World} {h k N B : Nat} (hk : h + 4 ≤ B) (hw : w.heap.size ≤ h) : OwnFrom B (LX w h k N) := by
  intro m W W' row hf hg hr
  have hr' : ∀ r, row = some r → ∃ o : Obj, W.heap[r]? = some o ∧ o.isCells = false := fun r e => (hr r e).2
  have hm := hf.le
  have som : ∀ j, j < k → ∃ u, W.cell? ⟨h, j, none⟩ = some u := fun j hj => by
    rcases Nat.lt_or_ge j m with h1 | h1
    · exact ⟨_, hf.lo j h1⟩
    · exact ⟨_, hf.hi j h1 hj⟩
  refine ⟨cell_kept hf.box hg hr', fun j hj => ?_, fun j hj => cell_kept (hf.lo j hj) hg hr', fun j h1 h2 => cell_kept (hf.hi j h1 h2) hg hr', cell_kept hf.cn hg hr', cell_kept hf.cs hg hr', hf.low.grown hg hf.low.size (fun k e => by have := (hr k e).1; omega), ?_, hm⟩
  · obtain ⟨u, hu⟩ := som j hj
    exact (frozen_kept hu hg hr').trans (hf.fr j hj)
  · have := ((Below.refl 0 W).grown hg (by omega) (fun _ _ => Nat.zero_le _)).size
    have := hf.ge
    omega

theorem lx_step {w W : World} {h k N m : Nat} (hf : LX w h k N m W) (hm : m < k) (hw : w.heap.size ≤ h) : LX w h k N (m + 1) (W.setCell ⟨h, m, none⟩ (.int .u8 ((digN 8 N m : Nat) : Int))) := by
  obtain ⟨box, fr, lo, hi, cn, cs, low, ge, _⟩ := hf
  have hh : h < W.heap.size := by omega
  have hm0 := hi m (Nat.le_refl _) hm
  refine ⟨by simp [go_sem, box], fun j hj => by simp [go_sem, fr j hj], fun j hj => ?_, fun j h1 h2 => ?_, by simp [go_sem, cn], by simp [go_sem, cs], low.setCell (p := ⟨h, m, none⟩) hw _, by simpa using ge, hm⟩
  · by_cases e : j = m
    · subst e
      simp [go_sem, hm0]
    · simp [go_sem, lo j (by omega)]
  · have e : j ≠ m := by omega
    simp [go_sem, hi j (by omega) h2]

theorem le_bytes (k N : Nat) : ((List.range k).map fun j => ((digN 8 N j : Nat) : Int)).map (fun n => UInt8.ofNat n.toNat) = M.le k N := by
  apply List.ext_getElem
  · simp [M.le_length]
  · intro i h1 h2
    have hi : i < k := by simpa using h1
    have e := M.le_get k N i hi
    rw [List.getD_eq_getElem?_getD, List.getElem?_eq_getElem h2, Option.getD_some] at e
    rw [e]
    simp only [List.getElem_map, List.getElem_range, Int.toNat_natCast, digN, Nat.pow_mul]

set_option maxRecDepth 100000 in
set_option maxHeartbeats 4000000 in
theorem le_in (N k : Nat) (w : World) (hN : N < 18446744073709551616) (hk1 : 1 ≤ k) (hk8 : k ≤ 8) (hl : (M.tr (M.f32 N)).length ≤ k) :
    CallsIn Fence.wide 4 Tryz.prog 38 #[.int .u64 N, .int .i64 k] w fun e w' => e = .returned (.tuple #[.string ⟨(M.le k N).toArray⟩, .int .i64 0]) ∧ Below w.heap.size w w' := by
  have hro : Fence.wide.round = none := rfl
  have hsm : N < 256 ^ k := (M.tr_width (in_small N hN)).1 hl
  have hm8 := M.nd8_width hk1 hsm
  have HM := Lib.hid hsm
  have hbe := fun w => callsIn_wide (n := 3).2 (nbe_any N w hN)
  obtain ⟨lb, hlb⟩ : ∃ lb, M.tr (M.f32 N) = lb := ⟨_, rfl⟩
  rw [hlb] at hl hbe
  clear hlb hsm
  have hmk := fun w => run_make_row' (P := Tryz.prog) 41 5 (.int .u8 0) 1 Tryz.underlying41 Tryz.infoByte rfl .i64 .i64 k (by omega) (by omega) w
  refine callsIn_of_wp_marks Tryz.func38 rfl trivial ?_ hro
  simp only [Tryz.ntmps38, List.size_toArray, List.length_cons, List.length_nil, Nat.reduceAdd, Nat.reduceSub, Array.replicate_succ, Array.replicate_zero, List.push_toArray, List.append_toArray, List.nil_append, List.cons_append]
  gi_wp2_with (first | (refine ⟨trivial, ?_⟩; gi_at_call 71; refine (hbe _).mono ?_; rintro e w1 ⟨rfl, hb1⟩) | (refine ⟨trivial, ?_⟩; gi_at_call 72; refine (digits_in _ _ _ _).mono ?_; rintro e w' ⟨rfl, rfl⟩))
  obtain ⟨h, hh⟩ : ∃ h, w1.heap.size = h := ⟨_, rfl⟩
  obtain ⟨W0, hW0⟩ : ∃ W0, ((((w1.alloc (Obj.cells (madeCells #[Value.int IntKind.u8 0] k) 5)).alloc (Obj.cells #[Value.slice (some { block := w1.heap.size, off := 0 }) k k] 41)).alloc (Obj.cells #[Value.int IntKind.u64 ↑N] 23)).alloc (Obj.cells #[Value.int IntKind.i64 8] 3)) = W0 := ⟨_, rfl⟩
  have hX : LX w w1.heap.size k N 0 W0 := by
    have hs := hb1.size
    rw [← hW0]
    refine ⟨by simp [go_sem], fun j hj => ?_, fun j hj => absurd hj (by omega), fun j _ hj => ?_, by simp [go_sem], by simp [go_sem], ?_, by simp, by omega⟩
    · have := (made_cell w1 (.int .u8 0) k 5 j hj).2
      simp [go_sem]
    · have := (made_cell w1 (.int .u8 0) k 5 j hj).1
      simp [go_sem] at this
      simp [go_sem, this]
    · exact (((hb1.alloc (by omega) _).alloc (by simp; omega) _).alloc (by simp; omega) _).alloc (by simp; omega) _
  have hsz : W0.heap.size = w1.heap.size + 4 := by rw [← hW0]; simp
  have hwh : w.heap.size ≤ w1.heap.size := hb1.size
  rw [hW0]
  rw [hh] at hX hsz hwh ⊢
  clear hW0 hh hmk hbe hb1
  have HS := Lib.hid hsz
  refine range_digits (S := 8) (N := N) (s := 8) rfl (.inr rfl) hN (M.nd_pos 8 7 N) (by have := M.nd_le 8 7 N; omega) (M.nd_low 8 7 N) (M.nd8_high hN) (bn := h + 2) (bs := h + 3) rfl rfl (LX w h k N) (lx_own (by omega) hwh) (fun i W hi => ⟨hi.cn, hi.cs⟩) hX
    (fun x t => (((t.setIfInBounds 26 (.int .i64 x)).setIfInBounds 27 (.int .u8 ((digN 8 N x : Nat) : Int))).setIfInBounds 7 (.int .i64 x)).setIfInBounds 8 (.int .u8 ((digN 8 N x : Nat) : Int))) ?assign ?body ?done
  case assign =>
    intro l x W K hK
    clear hsz hX
    simp only [List.setIfInBounds_toArray, List.set_cons_zero, List.set_cons_succ] at hK
    gi_wp2
    exact hK
  case body =>
    intro l i W hi hXi
    replace hi : i < M.nd8 N := hi
    have hik : i < k := by omega
    have hbox := hXi.box
    have hfr := hXi.fr i hik
    have hci := hXi.hi i (Nat.le_refl _) hik
    have HST := Lib.hid (lx_step hXi hik hwh)
    clear hsz hX
    simp only [List.setIfInBounds_toArray, List.set_cons_zero, List.set_cons_succ]
    gi_wp2
    exact ⟨KeepsOthers.setCell _ _ _, HST.out⟩
  case done =>
    intro D W hD hXm hK
    have hall : ∀ j, j < k → W.cell? ⟨h, j, none⟩ = some (.int .u8 ((digN 8 N j : Nat) : Int)) := by
      intro j hj
      rcases Nat.lt_or_ge j (M.nd 8 7 N) with h1 | h1
      · exact hXm.lo j h1
      · rw [hXm.hi j h1 hj]
        have e : N / 2 ^ (8 * j) = 0 := by
          have h2 : 2 ^ (8 * M.nd 8 7 N) ≤ 2 ^ (8 * j) := Nat.pow_le_pow_right (by omega) (by omega)
          have h3 : N / 2 ^ (8 * M.nd 8 7 N) = 0 := M.nd8_high hN
          have h4 : N < 2 ^ (8 * M.nd 8 7 N) := by
            rcases Nat.lt_or_ge N (2 ^ (8 * M.nd 8 7 N)) with h5 | h5
            · exact h5
            · have := Nat.div_pos h5 (Nat.two_pow_pos _)
              omega
          exact Nat.div_eq_of_lt (by omega)
        rw [digN, e]
        rfl
    have hr := run_convert_bytes_arg W 41 5 Tryz.underlying41 Tryz.underlying5 h 0 k k ((List.range k).map fun j => ((digN 8 N j : Nat) : Int)) (by simp) (fun i hi => by rw [Nat.zero_add, hall i hi]; simp [hi]) 9 Tryz.underlying9
    have hbox := hXm.box
    have hlow := hXm.low
    clear hall hsz hX
    gi_wp2
    refine ⟨by simp, .inl ⟨_, _, rfl, run_takeDeferred hK, ?_⟩⟩
    have e : strOfNums ((List.range k).map fun j => ((digN 8 N j : Nat) : Int)) = ⟨(M.le k N).toArray⟩ := by unfold strOfNums; rw [le_bytes]
    refine ⟨_, results_tmp2 rfl _ _ _, ?_, hlow.trans (belowK_b (w := w) (Nat.le_refl _) W D _ _ (by have := HS.out; omega) hK rfl rfl)⟩
    rw [← e]
    rfl

set_option maxHeartbeats 1000000 in
theorem le_arg (N : Nat) (width : Int) (w : World) (h : ¬ (1 ≤ width ∧ width ≤ 8)) :
    Calls Tryz.prog 38 #[.int .u64 N, .int .i64 width] w fun e w' => e = .returned (.tuple #[.string ⟨#[]⟩, .int .i64 1]) ∧ Below w.heap.size w w' := by
  by_cases h1 : width < 1
  · clear h
    go_enter Tryz.func38, Tryz.ntmps38
    go_wp2_with fail
    go_ret2
    exact ⟨rfl, Below.refl _ _⟩
  · have h8 : 8 < width := by omega
    clear h
    go_enter Tryz.func38, Tryz.ntmps38
    go_wp2_with fail
    go_ret2
    exact ⟨rfl, Below.refl _ _⟩

set_option maxHeartbeats 1000000 in
theorem le_big (N k : Nat) (w : World) (hN : N < 18446744073709551616) (hk1 : 1 ≤ k) (hk8 : k ≤ 8) (hl : k < (M.tr (M.f32 N)).length) :
    Calls Tryz.prog 38 #[.int .u64 N, .int .i64 k] w fun e w' => e = .returned (.tuple #[.string ⟨#[]⟩, .int .i64 1]) ∧ Below w.heap.size w w' := by
  have hbe := fun w => nbe_any N w hN
  obtain ⟨lb, hlb⟩ : ∃ lb, M.tr (M.f32 N) = lb := ⟨_, rfl⟩
  rw [hlb] at hl hbe
  clear hlb
  go_enter Tryz.func38, Tryz.ntmps38
  go_wp2_with (go_at_call 71; refine (hbe _).mono ?_; rintro e w1 ⟨rfl, hb1⟩)
  go_ret2
  exact ⟨rfl, hb1⟩

theorem le_any (N : Nat) (width : Int) (w : World) (hN : N < 18446744073709551616) :
    Calls Tryz.prog 38 #[.int .u64 N, .int .i64 width] w fun e w' => e = .returned (.tuple #[.string ⟨(M.lw N width).1.toArray⟩, .int .i64 ((M.lw N width).2 : Nat)]) ∧ Below w.heap.size w w' := by
  by_cases h : 1 ≤ width ∧ width ≤ 8
  · obtain ⟨k, rfl⟩ : ∃ k : Nat, width = k := ⟨width.toNat, by omega⟩
    by_cases hl : (M.tr (M.f32 N)).length ≤ k
    · have e : M.lw N k = (M.le k N, 0) := by
        unfold M.lw
        rw [if_pos ⟨h.1, h.2, by omega⟩, Int.toNat_natCast]
      rw [e]
      exact callsIn_wide.1 (le_in N k w hN (by omega) (by omega) hl)
    · have e : M.lw N k = ([], 1) := by
        unfold M.lw
        rw [if_neg (by omega)]
      rw [e]
      exact le_big N k w hN (by omega) (by omega) (by omega)
  · have e : M.lw N width = ([], 1) := by
      unfold M.lw
      rw [if_neg (by omega)]
    rw [e]
    exact le_arg N width w h
end Go.Proofs.YtaajkbclojmbeaaGreatDoor
namespace Go.Proofs.YtaajkbclojmbeaaGreatDoor
open Go Go.RowKit Go.Lib

theorem le_f32V {N : Nat} (h : N < 4294967296) : (M.tr (M.f32 N)).length ≤ 4 := (M.tr_width (k := 4) (by unfold M.In; omega)).2 (by omega)
theorem be_atV (k : Nat) : ∀ (N j : Nat), j < k → (M.be k N)[k - 1 - j]? = some (UInt8.ofNat (N / 256 ^ j % 256)) := by
  induction k with
  | zero => intro N j h; omega
  | succ k ih =>
    intro N j h
    rw [M.be]
    cases j with
    | zero => simp [M.be_length]
    | succ j =>
      rw [List.getElem?_append_left (by rw [M.be_length]; omega), show k + 1 - 1 - (j + 1) = k - 1 - j by omega, ih (N / 256) j (by omega), Nat.div_div_eq_div_mul, Nat.pow_succ, Nat.mul_comm]
theorem f32_take (N n : Nat) (hn : n ≤ 32) : (M.f32 N).reverse.take n = M.le n N := by
  apply M.getD_ext
  · rw [List.length_take, List.length_reverse, M.f32_length, M.le_length]; omega
  · intro j hj
    rw [List.length_take, List.length_reverse, M.f32_length] at hj
    rw [M.le_get _ _ _ (by omega), List.getD_eq_getElem?_getD, List.getElem?_take_of_lt (by omega), List.getElem?_reverse (by rw [M.f32_length]; omega), M.f32_length, show 32 - 1 - j = 32 - 1 - j from rfl]
    show ((M.be 32 N)[32 - 1 - j]?).getD 0 = _
    rw [be_atV 32 N j (by omega)]
    rfl
theorem Seal.bk {w w' : World} {e : TypeId} {l : List UInt8} {cap : Nat} {cur : Array Value} (h : Seal w w' e ⟨l.toArray⟩ cap cur) : Bk w' w.heap.size l := by
  have hsz : (⟨l.toArray⟩ : ByteArray).size = l.length := by simp [ByteArray.size]
  have ht := h.take
  rw [hsz, bc_str] at ht
  have hlen := h.len
  rw [hsz] at hlen
  have hcs := h.size
  refine ⟨fun j hj => ?_, fun j hj => ?_⟩
  · simp only [World.cell?, h.row]
    have h1 : (cur.toList.take l.length)[j]? = (bc l)[j]? := by rw [ht]
    rw [List.getElem?_take_of_lt hj, Array.getElem?_toList] at h1
    have h2 : (bc l)[j]? = some (.int .u8 ((l.getD j 0).toNat : Nat)) := by
      unfold bc
      rw [List.getElem?_map, List.getElem?_eq_getElem hj, List.getD_eq_getElem?_getD, List.getElem?_eq_getElem hj]
      rfl
    rw [h2] at h1
    simpa using h1
  · simp [World.frozen?, h.row]
    omega
theorem Bk.srB {w : World} {g : Nat} {l : List UInt8} (h : Bk w g l) {B n cap : Nat} (hB : B ≤ g) (hn : n ≤ l.length) (h0 : 0 < l.length) : SrB B (l.take n) (.slice (some ⟨g, 0, none⟩) n cap) w := by
  refine .inr ⟨⟨g, 0, none⟩, cap, by rw [List.length_take, Nat.min_eq_left hn], hB, World.block_lt_of_cell? _ _ (h.1 0 h0), fun j u hj => ?_⟩
  have hj2 : j < (bc (l.take n)).length := (List.getElem?_eq_some_iff.1 hj).1
  rw [bc_length, List.length_take] at hj2
  have e : (⟨g, 0, none⟩ : Addr).add j = ⟨g, j, none⟩ := by unfold Addr.add; split <;> simp_all
  rw [e, h.1 j (by omega)]
  unfold bc at hj
  rw [List.getElem?_map, List.getElem?_take_of_lt (by omega), List.getElem?_eq_getElem (by omega)] at hj
  rw [← hj, List.getD_eq_getElem?_getD, List.getElem?_eq_getElem (by omega)]
  rfl

set_option maxRecDepth 100000 in
set_option maxHeartbeats 2000000 in
theorem lowest_any (N n : Nat) (hN : M.In N) (hn : n ≤ 32) (w : World) :
    Calls Tryz.prog 175 #[.int .i64 n, wn N] w fun e w' => (∃ u, e = .returned u ∧ SrB w.heap.size (M.le n N) u w') ∧ Below w.heap.size w w' := by
  have hpw : Below w.heap.size w (w.alloc (.cells #[.int .u64 (M.pt 0 N), .int .u64 (M.pt 1 N), .int .u64 (M.pt 2 N), .int .u64 (M.pt 3 N)] 34)) := by (repeat (first | exact Below.refl _ _ | refine Below.drew ?_ | refine Below.alloc ?_ (by first | omega | (simp; omega) | simp) _ | refine Below.setCell ?_ (by first | omega | (simp; omega) | simp) _))
  go_enter Tryz.func175, Tryz.ntmps175
  go_wp2_with fail
  refine (fixed_any N _ hN).mono ?_
  rintro e w1 ⟨rfl, hb1⟩
  have hbw : Below w.heap.size w w1 := hpw.trans (hb1.mono hpw.size)
  go_wp2_with (refine wpList_seal _ rfl _ _ 5 _ rfl ⟨(M.f32 N).toArray⟩ rfl Tryz.underlying9 Tryz.underlying41 Tryz.underlying5 (by simp [ByteArray.size, M.f32_length]; unfold maxLen; omega) ?_; intro cap cur w2 hSeal)
  have hcap : 32 ≤ cap := by have := hSeal.len; simpa [ByteArray.size, M.f32_length] using this
  have hcm := hSeal.max
  have hsz : (⟨(M.f32 N).toArray⟩ : ByteArray).size = 32 := by simp [ByteArray.size, M.f32_length]
  rw [M.f32_length]
  refine (reverse_any w1.heap.size cap _ w2 hSeal.bk (M.f32_length N)).mono ?_
  rintro e w3 ⟨rfl, hB3, hg3, hz3⟩
  have hbw3 : Below w.heap.size w w3 := (hbw.trans (hSeal.low.mono hbw.size)).grown hg3 (Nat.le_trans hbw.size hSeal.low.size) (fun k e => by cases e; exact hbw.size)
  have hS := hB3.srB (B := w.heap.size) (n := n) (cap := cap) hbw.size (by rw [List.length_reverse, M.f32_length]; exact hn) (by rw [List.length_reverse, M.f32_length]; omega)
  rw [f32_take _ _ hn] at hS
  have HS := Lib.hid hS
  clear hS hB3 hSeal hg3 hb1 hpw
  go_wp2_with fail
  go_ret
  exact ⟨⟨_, rfl, HS.out⟩, hbw3⟩
set_option maxRecDepth 100000 in
set_option maxHeartbeats 2000000 in
theorem offset_any (n : Nat) (hn : n < 4294967296) (w : World) :
    Calls Tryz.prog 184 #[.int .i64 n] w fun e w' => (∃ u, e = .returned u ∧ SrB w.heap.size (M.le 4 n) u w') ∧ Below w.heap.size w w' := by
  have HL : Hid (∀ W, Calls Tryz.prog 38 #[.int .u64 n, .int .i64 4] W fun e w' => e = .returned (.tuple #[.string ⟨(M.le 4 n).toArray⟩, .int .i64 0]) ∧ Below W.heap.size W w') := fun W => callsIn_wide.1 (le_in n 4 W (by omega) (by omega) (by omega) (le_f32V hn))
  have hw : IntKind.u64.wrap (n : Int) = n := by
    simp only [IntKind.wrap, IntKind.bits, IntKind.signed]
    simp
    omega
  have hl : (M.le 4 n).length = 4 := M.le_length 4 n
  go_enter Tryz.func184, Tryz.ntmps184
  go_wp2_with fail
  refine (HL.out _).mono ?_
  rintro e w1 ⟨rfl, hb1⟩
  go_wp2_with (refine wpList_seal _ rfl _ _ 5 _ rfl ⟨(M.le 4 n).toArray⟩ rfl Tryz.underlying9 Tryz.underlying41 Tryz.underlying5 (by simp [ByteArray.size, hl]; unfold maxLen; omega) ?_; intro cap cur w2 hSeal)
  have hS := (hSeal.bk).srB (B := w.heap.size) (n := 4) (cap := cap) hb1.size (by omega) (by omega)
  rw [List.take_of_length_le (by omega)] at hS
  go_ret
  exact ⟨⟨_, rfl, hS⟩, hb1.trans (hSeal.low.mono hb1.size)⟩
end Go.Proofs.YtaajkbclojmbeaaGreatDoor
namespace Go.Proofs.YtaajkbclojmbeaaGreatDoor.M
open Go

theorem bn_none {f : Nat → Bool} (h : ∀ i, i < 8 → f i = false) : bn f = 0 := by
  unfold bn
  rw [h 0 (by omega), h 1 (by omega), h 2 (by omega), h 3 (by omega), h 4 (by omega), h 5 (by omega), h 6 (by omega), h 7 (by omega)]
  rfl
theorem bn_more {f g : Nat → Bool} {j : Nat} (hj : j < 8) (hf : f j = false) (hg : g j = true) (h : ∀ i, i < 8 → i ≠ j → f i = g i) : bn g = bn f + 2 ^ j := by
  unfold bn
  match j, hj with
  | 0, _ => rw [hf, hg, h 1 (by omega) (by omega), h 2 (by omega) (by omega), h 3 (by omega) (by omega), h 4 (by omega) (by omega), h 5 (by omega) (by omega), h 6 (by omega) (by omega), h 7 (by omega) (by omega)]; simp; omega
  | 1, _ => rw [hf, hg, h 0 (by omega) (by omega), h 2 (by omega) (by omega), h 3 (by omega) (by omega), h 4 (by omega) (by omega), h 5 (by omega) (by omega), h 6 (by omega) (by omega), h 7 (by omega) (by omega)]; simp; omega
  | 2, _ => rw [hf, hg, h 0 (by omega) (by omega), h 1 (by omega) (by omega), h 3 (by omega) (by omega), h 4 (by omega) (by omega), h 5 (by omega) (by omega), h 6 (by omega) (by omega), h 7 (by omega) (by omega)]; simp; omega
  | 3, _ => rw [hf, hg, h 0 (by omega) (by omega), h 1 (by omega) (by omega), h 2 (by omega) (by omega), h 4 (by omega) (by omega), h 5 (by omega) (by omega), h 6 (by omega) (by omega), h 7 (by omega) (by omega)]; simp; omega
  | 4, _ => rw [hf, hg, h 0 (by omega) (by omega), h 1 (by omega) (by omega), h 2 (by omega) (by omega), h 3 (by omega) (by omega), h 5 (by omega) (by omega), h 6 (by omega) (by omega), h 7 (by omega) (by omega)]; simp; omega
  | 5, _ => rw [hf, hg, h 0 (by omega) (by omega), h 1 (by omega) (by omega), h 2 (by omega) (by omega), h 3 (by omega) (by omega), h 4 (by omega) (by omega), h 6 (by omega) (by omega), h 7 (by omega) (by omega)]; simp; omega
  | 6, _ => rw [hf, hg, h 0 (by omega) (by omega), h 1 (by omega) (by omega), h 2 (by omega) (by omega), h 3 (by omega) (by omega), h 4 (by omega) (by omega), h 5 (by omega) (by omega), h 7 (by omega) (by omega)]; simp; omega
  | 7, _ => rw [hf, hg, h 0 (by omega) (by omega), h 1 (by omega) (by omega), h 2 (by omega) (by omega), h 3 (by omega) (by omega), h 4 (by omega) (by omega), h 5 (by omega) (by omega), h 6 (by omega) (by omega)]; simp
/-- The bytes of bits, as numbers. -/
def pk (l : List Bool) : List Int := (List.range ((l.length + 7) / 8)).map fun j => ((bn fun i => l.getD (8 * j + i) false : Nat) : Int)
theorem pk_length (l : List Bool) : (pk l).length = (l.length + 7) / 8 := by simp [pk]
theorem pk_bytes (l : List Bool) : (pk l).map (fun n => UInt8.ofNat n.toNat) = packB l := by
  simp [pk, packB]
/-- What stands there before a bit is set. -/
def pk0 (l : List Bool) : List Int := if l.length % 8 = 0 then pk l ++ [0] else pk l
theorem pk0_length (l : List Bool) : (pk0 l).length = (l.length + 8) / 8 := by
  unfold pk0
  split
  · rw [List.length_append, pk_length, List.length_singleton]; omega
  · rw [pk_length]; omega
theorem getD_over {l : List Bool} {i : Nat} (h : l.length ≤ i) : l.getD i false = false := by
  rw [List.getD_eq_getElem?_getD, List.getElem?_eq_none h]; rfl
theorem getD_snoc {l : List Bool} {b : Bool} {i : Nat} (h : i ≠ l.length) : (l ++ [b]).getD i false = l.getD i false := by
  rw [List.getD_eq_getElem?_getD, List.getD_eq_getElem?_getD]
  rcases Nat.lt_or_gt_of_ne h with h | h
  · rw [List.getElem?_append_left h]
  · rw [List.getElem?_eq_none (by simp; omega), List.getElem?_eq_none (by omega)]
theorem getD_last {l : List Bool} {b : Bool} : (l ++ [b]).getD l.length false = b := by
  rw [List.getD_eq_getElem?_getD, List.getElem?_append_right (Nat.le_refl _), Nat.sub_self]; rfl
theorem pk0_get (l : List Bool) {j : Nat} (hj : j < (l.length + 8) / 8) : (pk0 l)[j]? = some ((bn fun i => l.getD (8 * j + i) false : Nat) : Int) := by
  unfold pk0
  split
  · rename_i hm
    by_cases h : j < (l.length + 7) / 8
    · rw [List.getElem?_append_left (by rw [pk_length]; exact h)]
      unfold pk
      rw [List.getElem?_map, List.getElem?_range h]; rfl
    · rw [List.getElem?_append_right (by rw [pk_length]; omega), pk_length, show j - (l.length + 7) / 8 = 0 by omega]
      rw [bn_none fun i hi => getD_over (by omega)]
      rfl
  · unfold pk
    rw [List.getElem?_map, List.getElem?_range (by omega)]; rfl
/-- One bit more. -/
theorem pk_snoc (l : List Bool) (b : Bool) : pk (l ++ [b]) = if b = true then (pk0 l).set (l.length / 8) (((bn fun i => l.getD (8 * (l.length / 8) + i) false) + 2 ^ (l.length % 8) : Nat) : Int) else pk0 l := by
  apply List.ext_getElem?
  intro j
  have hlen : (pk (l ++ [b])).length = (l.length + 8) / 8 := by rw [pk_length, List.length_append, List.length_singleton]
  by_cases hj : j < (l.length + 8) / 8
  · have e1 : (pk (l ++ [b]))[j]? = some ((bn fun i => (l ++ [b]).getD (8 * j + i) false : Nat) : Int) := by
      unfold pk
      rw [List.getElem?_map, List.getElem?_range (by simp; omega)]; rfl
    rw [e1]
    by_cases hb : b = true
    · rw [if_pos hb]
      subst hb
      by_cases hlast : j = l.length / 8
      · subst hlast
        rw [List.getElem?_set_self (by rw [pk0_length]; omega)]
        rw [bn_more (f := fun i => l.getD (8 * (l.length / 8) + i) false) (g := fun i => (l ++ [true]).getD (8 * (l.length / 8) + i) false) (j := l.length % 8) (by omega) (getD_over (by omega)) (by
          show (l ++ [true]).getD (8 * (l.length / 8) + l.length % 8) false = true
          rw [show 8 * (l.length / 8) + l.length % 8 = l.length by omega]; exact getD_last) (fun i hi hne => (getD_snoc (by omega)).symm)]
      · rw [List.getElem?_set_ne (by omega), pk0_get l hj, bn_ext fun i hi => getD_snoc (by omega)]
    · rw [if_neg hb, pk0_get l hj]
      have hb' : b = false := by simpa using hb
      subst hb'
      rw [bn_ext (f := fun i => (l ++ [false]).getD (8 * j + i) false) (g := fun i => l.getD (8 * j + i) false) fun i hi => by
        show (l ++ [false]).getD (8 * j + i) false = _
        by_cases he : 8 * j + i = l.length
        · rw [he, getD_last, getD_over (Nat.le_refl _)]
        · exact getD_snoc he]
  · rw [List.getElem?_eq_none (by omega), List.getElem?_eq_none]
    split
    · rw [List.length_set, pk0_length]; omega
    · rw [pk0_length]; omega
theorem bn_room {l : List Bool} : (bn fun i => l.getD (8 * (l.length / 8) + i) false) + 2 ^ (l.length % 8) < 256 := by
  have := bn_more (f := fun i => l.getD (8 * (l.length / 8) + i) false) (g := fun i => (l ++ [true]).getD (8 * (l.length / 8) + i) false) (j := l.length % 8) (by omega) (getD_over (by omega)) (by
          show (l ++ [true]).getD (8 * (l.length / 8) + l.length % 8) false = true
          rw [show 8 * (l.length / 8) + l.length % 8 = l.length by omega]; exact getD_last) (fun i hi hne => (getD_snoc (by omega)).symm)
  rw [← this]
  exact bn_lt _
end Go.Proofs.YtaajkbclojmbeaaGreatDoor.M
namespace Go.Proofs.YtaajkbclojmbeaaGreatDoor
open Go Go.RowKit Go.Lib

theorem M.pk_add (l : List Bool) (b : Bool) : M.pk (l ++ [b]) = if b = true then (M.pk0 l).set (l.length / 8) ((M.pk0 l).getD (l.length / 8) 0 + 2 ^ (l.length % 8)) else M.pk0 l := by
  rw [M.pk_snoc]
  have hg := M.pk0_get l (j := l.length / 8) (by omega)
  rw [List.getD_eq_getElem?_getD, hg, Option.getD_some]
  simp
theorem M.bn_low (f : Nat → Bool) : ∀ r, r ≤ 8 → (∀ i, r ≤ i → i < 8 → f i = false) → M.bn f < 2 ^ r := by
  intro r hr h
  have hb : ∀ i, (f i).toNat ≤ 1 := fun i => by cases f i <;> decide
  have b0 := hb 0; have b1 := hb 1; have b2 := hb 2; have b3 := hb 3; have b4 := hb 4; have b5 := hb 5; have b6 := hb 6; have b7 := hb 7
  have hz : ∀ i, i < 8 → i < r ∨ (f i).toNat = 0 := fun i h2 => by
    by_cases h1 : r ≤ i
    · exact .inr (by rw [h i h1 h2]; rfl)
    · exact .inl (by omega)
  have z0 := hz 0 (by omega); have z1 := hz 1 (by omega); have z2 := hz 2 (by omega); have z3 := hz 3 (by omega); have z4 := hz 4 (by omega); have z5 := hz 5 (by omega); have z6 := hz 6 (by omega); have z7 := hz 7 (by omega)
  unfold M.bn
  clear hz h hb
  generalize (f 0).toNat = a0 at *
  generalize (f 1).toNat = a1 at *
  generalize (f 2).toNat = a2 at *
  generalize (f 3).toNat = a3 at *
  generalize (f 4).toNat = a4 at *
  generalize (f 5).toNat = a5 at *
  generalize (f 6).toNat = a6 at *
  generalize (f 7).toNat = a7 at *
  have : r = 0 ∨ r = 1 ∨ r = 2 ∨ r = 3 ∨ r = 4 ∨ r = 5 ∨ r = 6 ∨ r = 7 ∨ r = 8 := by omega
  rcases this with rfl | rfl | rfl | rfl | rfl | rfl | rfl | rfl | rfl <;> omega
/-- The byte of the bit that comes: what stands there is below the bit. -/
theorem M.pk_low (l : List Bool) : ∃ z : Nat, (M.pk0 l).getD (l.length / 8) 0 = (z : Int) ∧ z < 2 ^ (l.length % 8) := by
  have hg := M.pk0_get l (j := l.length / 8) (by omega)
  rw [List.getD_eq_getElem?_getD, hg, Option.getD_some]
  exact ⟨_, rfl, M.bn_low _ _ (by omega) fun i h1 h2 => M.getD_over (by omega)⟩
theorem or_fin : ∀ r : Fin 8, ∀ z : Fin 256, z.val < 2 ^ r.val → bits BinOp.or IntKind.u8 ((z.val : Nat) : Int) (IntKind.u8.wrap (2 ^ r.val)) = ((z.val + 2 ^ r.val : Nat) : Int) ∧ IntKind.u8.wrap (2 ^ r.val) = ((2 ^ r.val : Nat) : Int) := by decide +kernel
theorem or_bit {z r : Nat} (hr : r < 8) (hz : z < 2 ^ r) : bits BinOp.or IntKind.u8 (z : Int) (IntKind.u8.wrap (2 ^ r)) = ((z + 2 ^ r : Nat) : Int) ∧ IntKind.u8.wrap (2 ^ r) = ((2 ^ r : Nat) : Int) := by
  have h2 : (2 : Nat) ^ r ≤ 2 ^ 8 := Nat.pow_le_pow_right (by omega) (by omega)
  exact or_fin ⟨r, hr⟩ ⟨z, by omega⟩ hz

/-- What the closure finds, and leaves. -/
structure PB (w W : World) (l : List Bool) : Prop where
  below : Below w.heap.size w W
  o : ∃ v, Boxed W w.heap.size 41 v ∧ W.ownsRow (w.heap.size + 2) 5 1 v ((l.length + 7) / 8) ((M.pk l).map (Value.int .u8))
  c : Boxed W (w.heap.size + 1) 3 (.int .i64 (l.length : Nat))
/-- A byte for the next bit stands there. -/
structure PB0 (w W : World) (l : List Bool) : Prop where
  below : Below w.heap.size w W
  o : ∃ g cap, Boxed W w.heap.size 41 (.slice (some ⟨g, 0, none⟩) (l.length / 8 + 1) cap) ∧ W.ownsRow (w.heap.size + 2) 5 1 (.slice (some ⟨g, 0, none⟩) (l.length / 8 + 1) cap) (l.length / 8 + 1) ((M.pk0 l).map (Value.int .u8))
  c : Boxed W (w.heap.size + 1) 3 (.int .i64 (l.length : Nat))

theorem PB.drew {w W : World} {l : List Bool} (h : PB w W l) : PB w W.drew l := ⟨Below.drew h.below, h.o, h.c⟩
theorem PB.same {w W : World} {l : List Bool} (h : PB w W l) (hm : l.length % 8 ≠ 0) : PB0 w W l := by
  obtain ⟨v, h1, h2⟩ := h.o
  rw [show (l.length + 7) / 8 = l.length / 8 + 1 by omega] at h2
  have e : M.pk0 l = M.pk l := by unfold M.pk0; rw [if_neg hm]
  rw [← e] at h2
  obtain ⟨g, cap, rfl, _⟩ := row_cells h2 (by omega)
  exact ⟨h.below, ⟨g, cap, h1, h2⟩, h.c⟩

theorem pb_own {w W : World} {l : List Bool} (h : PB0 w W l) {g cap : Nat} (h1 : Boxed W w.heap.size 41 (.slice (some ⟨g, 0, none⟩) (l.length / 8 + 1) cap)) (h2 : W.ownsRow (w.heap.size + 2) 5 1 (.slice (some ⟨g, 0, none⟩) (l.length / 8 + 1) cap) (l.length / 8 + 1) ((M.pk0 l).map (Value.int .u8))) (b : Bool) :
    PB w ((if b = true then W.setCell ⟨g, l.length / 8, none⟩ (.int .u8 ((M.pk0 l).getD (l.length / 8) 0 + 2 ^ (l.length % 8))) else W).setCell ⟨w.heap.size + 1, 0, none⟩ (.int .i64 ((l.length : Int) + 1))) (l ++ [b]) := by
  have hg := (World.ownsRow.lt h2 g rfl)
  have hsz := h.below.size
  have hl : (l ++ [b]).length = l.length + 1 := by simp
  have e8 : ((l ++ [b]).length + 7) / 8 = l.length / 8 + 1 := by rw [hl]; omega
  have key : ∀ X : World, Below w.heap.size w X → Boxed X w.heap.size 41 (.slice (some ⟨g, 0, none⟩) (l.length / 8 + 1) cap) → Boxed X (w.heap.size + 1) 3 (.int .i64 (l.length : Nat)) →
      X.ownsRow (w.heap.size + 2) 5 1 (.slice (some ⟨g, 0, none⟩) (l.length / 8 + 1) cap) (l.length / 8 + 1) ((M.pk (l ++ [b])).map (Value.int .u8)) → PB w (X.setCell ⟨w.heap.size + 1, 0, none⟩ (.int .i64 ((l.length : Int) + 1))) (l ++ [b]) := by
    intro X hX hB hC hO
    refine ⟨hX.setCell (by simp) _, ⟨_, hB.other (by omega) _, ?_⟩, ?_⟩
    · rw [e8]
      exact hO.kept (grownBy_setCell' X (w.heap.size + 1) _) (.inr (by simp [Value.ownBlock]; omega))
    · rw [hl]
      have := hC.set (v' := .int .i64 ((l.length : Int) + 1))
      simpa using this
  cases b with
  | false =>
    rw [if_neg (by decide)]
    refine key W h.below h1 h.c ?_
    rw [M.pk_add, if_neg (by decide)]
    exact h2
  | true =>
    rw [if_pos rfl]
    have hst := h2.stored (l.length / 8) (.int .u8 ((M.pk0 l).getD (l.length / 8) 0 + 2 ^ (l.length % 8)))
    refine key _ (h.below.setCell (by simp; omega) _) (h1.kept hst.2 (by simp; omega)) (h.c.kept hst.2 (by simp; omega)) ?_
    rw [M.pk_add, if_pos rfl, List.map_set]
    exact hst.1

/-- The byte of the bit that comes, and what the closure does with it. -/
structure PBf (w W : World) (l : List Bool) (n q r g cap z : Nat) : Prop where
  o : Boxed W w.heap.size 41 (.slice (some ⟨g, 0, none⟩) (q + 1) cap)
  c : Boxed W (w.heap.size + 1) 3 (.int .i64 (n : Nat))
  bz : W.cell? ⟨g, q, none⟩ = some (.int .u8 (z : Nat))
  bf : W.frozen? ⟨g, q, none⟩ = false
  lo : w.heap.size + 2 ≤ g
  no : PB w (W.setCell ⟨w.heap.size + 1, 0, none⟩ (.int .i64 ((n : Int) + 1))) (l ++ [false])
  yes : PB w ((W.setCell ⟨g, q, none⟩ (.int .u8 ((z + 2 ^ r : Nat) : Int))).setCell ⟨w.heap.size + 1, 0, none⟩ (.int .i64 ((n : Int) + 1))) (l ++ [true])
  or1 : bits BinOp.or IntKind.u8 (z : Int) (2 ^ r % 256) = ((z + 2 ^ r : Nat) : Int)
theorem PB0.facts {w W : World} {l : List Bool} {n q r : Nat} (h : PB0 w W l) (hn : l.length = n) (hq : n / 8 = q) (hr : n % 8 = r) : ∃ g cap z, PBf w W l n q r g cap z := by
  subst hn
  subst hq
  subst hr
  obtain ⟨g, cap, h1, h2⟩ := h.o
  have hc3 : l.length / 8 < (M.pk0 l).length := by rw [M.pk0_length]; omega
  obtain ⟨z, hz, hzl⟩ := M.pk_low l
  have hno := pb_own h h1 h2 false
  have hyes := pb_own h h1 h2 true
  rw [if_neg (by decide)] at hno
  rw [if_pos rfl, hz] at hyes
  have hq3 : W.cell? ⟨g, l.length / 8, none⟩ = some (.int .u8 (z : Nat)) := by
    rw [h2.cellAt (l.length / 8) (by omega), List.getElem?_map, List.getElem?_eq_getElem hc3]
    rw [List.getD_eq_getElem?_getD, List.getElem?_eq_getElem hc3] at hz
    simp at hz
    simp [hz]
  obtain ⟨ob1, _⟩ := or_bit (r := l.length % 8) (by omega) hzl
  refine ⟨g, cap, z, h1, h.c, hq3, h2.frozenAt _, (World.ownsRow.lt h2 g rfl).1, hno, ?_, ?_⟩
  have e : (z : Int) + 2 ^ (l.length % 8) = ((z + 2 ^ (l.length % 8) : Nat) : Int) := by simp
  · rw [e] at hyes
    exact hyes
  · have e2 : IntKind.u8.wrap (2 ^ (l.length % 8)) = 2 ^ (l.length % 8) % 256 := rfl
    rw [e2] at ob1
    exact ob1

theorem pb_first {w W w2 : World} {l : List Bool} {v v' : Value} (hP : PB w W l) (hO : Boxed W w.heap.size 41 v) (hown : W.ownsRow (w.heap.size + 2) 5 1 v ((l.length + 7) / 8) ((M.pk l).map (Value.int .u8))) (hm : l.length % 8 = 0)
    (hown' : w2.ownsRow (w.heap.size + 2) 5 1 v' ((l.length + 7) / 8 + 1) ((M.pk l).map (Value.int .u8) ++ [.int .u8 0])) (hgrow : (W.alloc (.cells #[.int .u8 0] 5)).grownBy w2 v.ownBlock) :
    ∃ g cap, v' = .slice (some ⟨g, 0, none⟩) (l.length / 8 + 1) cap ∧ PB0 w (w2.setCell ⟨w.heap.size, 0, none⟩ v') l ∧ Boxed w2 w.heap.size 41 v := by
  have e8 : (l.length + 7) / 8 + 1 = l.length / 8 + 1 := by omega
  have hp0 : M.pk0 l = M.pk l ++ [0] := by unfold M.pk0; rw [if_pos hm]
  have hown2 : w2.ownsRow (w.heap.size + 2) 5 1 v' (l.length / 8 + 1) ((M.pk0 l).map (Value.int .u8)) := by
    rw [hp0, List.map_append, ← e8]
    exact hown'
  obtain ⟨g, cap, rfl, _⟩ := row_cells hown2 (by omega)
  have hlt := World.ownsRow.lt hown2 g rfl
  have hrow : ∀ k, v.ownBlock = some k → w.heap.size + 2 ≤ k := fun k e => (World.ownsRow.lt hown k e).1
  have hsz := hP.below.size
  have hC := hP.c
  have hCl := hC.lt
  have hB2 : Boxed w2 w.heap.size 41 v := (hO.alloc _).kept hgrow (fun e => by have := hrow _ e.symm; omega)
  have hC2 : Boxed w2 (w.heap.size + 1) 3 (.int .i64 (l.length : Nat)) := (hC.alloc _).kept hgrow (fun e => by have := hrow _ e.symm; omega)
  have hb2 : Below w.heap.size w w2 := (hP.below.alloc hsz _).grown hgrow (by simp; omega) (fun k e => by have := hrow k e; omega)
  exact ⟨g, cap, rfl, ⟨hb2.setCell (by simp) _, ⟨g, cap, by have := hB2.set (v' := .slice (some ⟨g, 0, none⟩) (l.length / 8 + 1) cap); exact this, hown2.kept (grownBy_setCell' w2 w.heap.size _) (.inr (by simp [Value.ownBlock]; omega))⟩, hC2.other (by omega) _⟩, hB2⟩

set_option maxRecDepth 100000 in
set_option maxHeartbeats 4000000 in
/-- From the bit on: the last two statements, in whatever world the byte stands. -/
theorem putBit_any (w W : World) (l : List Bool) (b : Bool) (hP : PB w W l) (hlen : l.length ≤ 60000) :
    Calls Tryz.prog 182 #[.bool b, .pointer (some ⟨w.heap.size + 1, 0, none⟩), .pointer (some ⟨w.heap.size, 0, none⟩)] W fun e w' => e = .returned (.tuple #[]) ∧ PB w w' (l ++ [b]) := by
  obtain ⟨i0, hi, hz0, hz1, hz2⟩ := info_parts Tryz.infoU8
  obtain ⟨n, hn⟩ : ∃ n, n = l.length := ⟨_, rfl⟩
  have hlen' : n ≤ 60000 := by omega
  obtain ⟨q, hq⟩ : ∃ q, n / 8 = q := ⟨_, rfl⟩
  obtain ⟨r, hr⟩ : ∃ r, n % 8 = r := ⟨_, rfl⟩
  have ei : (n : Int) / 8 = (q : Int) := by omega
  have er : (n : Int) % 8 = (r : Int) := by omega
  have hr8 : r < 8 := by omega
  have hq9 : q ≤ 60000 := by omega
  by_cases hm : r = 0
  · subst hm
    have hsz := hP.below.size
    obtain ⟨v, hO, hown⟩ := hP.o
    have hCl := hP.c.lt
    have o1 := hO.cell
    have o3 := hP.c.cell
    have o5 := (hO.alloc (.cells #[.int .u8 0] 5)).cell
    have HF : Hid (∀ v' w2, w2.ownsRow (w.heap.size + 2) 5 1 v' ((n + 7) / 8 + 1) ((M.pk l).map (Value.int .u8) ++ [.int .u8 0]) → (W.alloc (.cells #[.int .u8 0] 5)).grownBy w2 v.ownBlock →
        ∃ g cap z, v' = .slice (some ⟨g, 0, none⟩) (q + 1) cap ∧ PBf w (w2.setCell ⟨w.heap.size, 0, none⟩ (.slice (some ⟨g, 0, none⟩) (q + 1) cap)) l n q 0 g cap z ∧ Boxed w2 w.heap.size 41 v) := fun v' w2 a1 a2 => by
      rw [hn] at a1
      obtain ⟨g, cap, e, hP0, hB⟩ := pb_first (v' := v') (w2 := w2) hP hO hown (by omega) a1 a2
      rw [← hn, hq] at e
      subst e
      obtain ⟨g', cap', z, hf⟩ := hP0.facts hn.symm hq hr
      have e1 := hf.o.cell
      have e2 := (hB.set (v' := .slice (some ⟨g, 0, none⟩) (q + 1) cap)).cell
      rw [e2] at e1
      cases e1
      exact ⟨g, cap, z, rfl, hf, hB⟩
    rw [← hn] at o3 hown
    clear hn hlen hP hq hr
    cases b with
    | false =>
      go_enter Tryz.func182, Tryz.ntmps182
      go_wp2_with (at_builtin; refine wpList_append_own _ rfl _ _ 41 rfl (w.heap.size + 2) 5 i0 (.int .u8 0) 1 1 Tryz.underlying41 hi hz0 hz1 hz2 rfl (by decide) _ _ _ rfl (hown.alloc _) ⟨W.heap.size, 0, none⟩ 1 1 [.int .u8 0] rfl rfl (cell_one_new _ _ _) (by simp [Value.oneCell']) (by unfold maxLen; omega) (by omega) (by simp; omega) ?_; intro v' w2 hown' hgrow _; obtain ⟨g, cap, z, rfl, hf, hB2⟩ := HF.out v' w2 hown' hgrow; have y1 := hB2.cell; have y2 := hB2.frozen; have y3 := hf.c.cell; have y4 := hf.c.frozen; have HF2 := Lib.hid hf; clear hown' hgrow hB2 hf)
      go_end0
      exact ⟨rfl, HF2.out.no⟩
    | true =>
      go_enter Tryz.func182, Tryz.ntmps182
      go_wp2_with (at_builtin; refine wpList_append_own _ rfl _ _ 41 rfl (w.heap.size + 2) 5 i0 (.int .u8 0) 1 1 Tryz.underlying41 hi hz0 hz1 hz2 rfl (by decide) _ _ _ rfl (hown.alloc _) ⟨W.heap.size, 0, none⟩ 1 1 [.int .u8 0] rfl rfl (cell_one_new _ _ _) (by simp [Value.oneCell']) (by unfold maxLen; omega) (by omega) (by simp; omega) ?_; intro v' w2 hown' hgrow _; obtain ⟨g, cap, z, rfl, hf, hB2⟩ := HF.out v' w2 hown' hgrow; have y1 := hB2.cell; have y2 := hB2.frozen; have y0 := hf.o.cell; have y3 := hf.c.cell; have y4 := hf.c.frozen; have y5 := hf.bz; have y6 := hf.bf; have y7 := hf.or1; have hlo := hf.lo; have HF2 := Lib.hid hf; clear hown' hgrow hB2 hf)
      have hne : ¬ (g = w.heap.size + 1) := by omega
      go_region
      go_wp2_with fail
      go_end0
      have e7 : bits BinOp.or IntKind.u8 (z : Int) 1 = ((z + 2 ^ 0 : Nat) : Int) := HF2.out.or1
      rw [e7]
      exact ⟨rfl, HF2.out.yes.drew⟩
  · have hP3 := (hP.same (by omega)).facts hn.symm hq hr
    obtain ⟨g, cap, z, hf⟩ := hP3
    have y0 := hf.o.cell
    have y3 := hf.c.cell
    have y4 := hf.c.frozen
    have y5 := hf.bz
    have y6 := hf.bf
    have y7 := hf.or1
    have hlo := hf.lo
    have HF2 := Lib.hid hf
    have hm' : ((r : Int) == 0) = false := by simp; omega
    have hne : ¬ (g = w.heap.size + 1) := by omega
    clear hf hn hlen hP hq hr
    cases b with
    | false =>
      go_enter Tryz.func182, Tryz.ntmps182
      go_wp2_with fail
      go_end0
      exact ⟨rfl, HF2.out.no⟩
    | true =>
      go_enter Tryz.func182, Tryz.ntmps182
      go_wp2_with fail
      go_region
      go_wp2_with fail
      go_end0
      exact ⟨rfl, HF2.out.yes.drew⟩

set_option maxRecDepth 100000 in
set_option maxHeartbeats 4000000 in
theorem pk_bc (l : List Bool) : (M.pk l).map (Value.int .u8) = bc (M.packB l) := by
  unfold M.pk M.packB bc
  rw [List.map_map, List.map_map]
  apply List.map_congr_left
  intro j _
  simp only [Function.comp]
  rw [M.ofNat_bn]
theorem PB.srB {w W : World} {l : List Bool} (h : PB w W l) {v : Value} (hv : W.cell? ⟨w.heap.size, 0, none⟩ = some v) : SrB w.heap.size (M.packB l) v W := by
  obtain ⟨u, h1, h2⟩ := h.o
  rw [h1.cell] at hv
  cases hv
  rw [pk_bc, ← M.pack_length] at h2
  exact (Ow.srB (B := w.heap.size + 2) h2).mono (by omega)
theorem putBits_any (bs cs : List Bool) (ab ac : Option Addr) (cb cc : Nat) (w : World) (hB : LayB w w.heap.size bs (.slice ab bs.length cb)) (hC : LayB w w.heap.size cs (.slice ac cs.length cc)) (h1 : bs.length ≤ 50000) (h2 : cs.length ≤ 10) :
    Calls Tryz.prog 176 #[.slice ab bs.length cb, .slice ac cs.length cc] w fun e w' => (∃ u, e = .returned u ∧ SrB w.heap.size (M.packB (bs ++ cs)) u w') ∧ Below w.heap.size w w' := by
  obtain ⟨W0, hW0⟩ : ∃ W0, (w.alloc (.cells #[.slice none 0 0] 41)).alloc (.cells #[.int .i64 0] 3) = W0 := ⟨_, rfl⟩
  have hP0 : PB w W0 [] := by
    rw [← hW0]
    refine ⟨two_boxes _ _ _, ⟨_, (Boxed.new w _ _).alloc _, World.ownsRow_nil _ _ _ _⟩, ?_⟩
    have := Boxed.new (w.alloc (.cells #[.slice none 0 0] 41)) 3 (.int .i64 0)
    rwa [World.size_alloc] at this
  have hmf : ∀ (fn : Fn) (first cap : Array Value) (w : World), (Instr.makeFunc fn first cap).run Tryz.prog w = .ok (.func fn first cap) w := fun _ _ _ _ => rfl
  have E1 : ∀ args w, (callFunc 182 args).run Tryz.prog w = .ok (.enter 182 args) w := enters_of Tryz.func182 (by kernel_rfl) rfl
  have HW := Lib.hid hW0
  clear hW0
  go_enter Tryz.func176, Tryz.ntmps176
  go_wp2_with fail
  rw [HW.out]
  go_loopw [15] (fun i wr => ∃ j : Nat, j ≤ bs.length ∧ i = .int .i64 j ∧ PB w wr (bs.take j)) (fun i _ => bs.length - (RowKit.intOf i).toNat)
  case atStart => exact ⟨0, by omega, rfl, by simpa using hP0⟩
  case round =>
    obtain ⟨j, hj, rfl, hP⟩ := hrel
    by_cases hlt : j < bs.length
    · obtain ⟨b, o, x, rfl, hbn, hx, e0⟩ := hB.at_ hlt
      have g0 := (hP.below.cell (p := ⟨b, o + j, none⟩) hbn).trans e0
      have hj9 : j < 50000 := by omega
      have HX := Lib.hid hx
      have HC := Lib.hid (putBit_any w wr (bs.take j) x hP (by rw [List.length_take]; omega))
      rw [show bs.take j ++ [x] = bs.take (j + 1) by rw [List.take_add_one, hx]; rfl] at HC
      clear hB hx e0 hP hP0 h1
      go_wp2_with fail
      refine HC.out.mono ?_
      rintro e w1 ⟨rfl, hP1⟩
      go_wp2_with fail
      go_roundw
      case rel => exact ⟨j + 1, by omega, by simp, hP1⟩
      case measure => simp [RowKit.intOf]; omega
    · obtain rfl : j = bs.length := by omega
      rw [List.take_length] at hP
      have HP := Lib.hid hP
      clear hP hP0 hB
      go_wp2_with fail
      go_loopw [25] (fun i wr => ∃ j : Nat, j ≤ cs.length ∧ i = .int .i64 j ∧ PB w wr (bs ++ cs.take j)) (fun i _ => cs.length - (RowKit.intOf i).toNat)
      case atStart => exact ⟨0, by omega, rfl, by simpa using HP.out⟩
      case round =>
        obtain ⟨j, hj, rfl, hP⟩ := hrel
        by_cases hlt : j < cs.length
        · obtain ⟨b, o, x, rfl, hbn, hx, e0⟩ := hC.at_ hlt
          have g0 := (hP.below.cell (p := ⟨b, o + j, none⟩) hbn).trans e0
          have hj9 : j < 10 := by omega
          have HC2 := Lib.hid (putBit_any w wr (bs ++ cs.take j) x hP (by rw [List.length_append, List.length_take]; omega))
          rw [List.append_assoc, show cs.take j ++ [x] = cs.take (j + 1) by rw [List.take_add_one, hx]; rfl] at HC2
          clear hC hx e0 hP HP h2
          go_wp2_with fail
          refine HC2.out.mono ?_
          rintro e w1 ⟨rfl, hP1⟩
          go_wp2_with fail
          go_roundw
          case rel => exact ⟨j + 1, by omega, by simp, hP1⟩
          case measure => simp [RowKit.intOf]; omega
        · obtain rfl : j = cs.length := by omega
          rw [List.take_length] at hP
          obtain ⟨v, hO, _⟩ := hP.o
          have o1 := hO.cell
          have HS := Lib.hid (hP.srB o1)
          have HBL := Lib.hid hP.below
          clear hP HP hO hC
          go_wp2_with fail
          go_ret
          exact ⟨⟨_, rfl, HS.out⟩, HBL.out⟩
end Go.Proofs.YtaajkbclojmbeaaGreatDoor
