/- From the walks of word.Fixed and word.Unfixed to numbers and their bytes. The reference's Be and Le of numbers of 64 bits. word.Fixed and word.Bytes, where no more of package word is called. Contracts of the word package's plain functions over this seat's translation. The contract of word.Less: whether the one number is below the other one. The landed package shape: what is wrong with a value's own parts. Plain: what is wrong with a value, in the landed package's order. The landed package shape: held, fault. The landed package shape: fault. -/
import Derived.Test.YtaajkbclojmbeaaGreatDoorW5i
import Derived.Test.YtaajkbclojmbeaaGreatDoorW6i
import Derived.Test.YtaajkbclojmbeaaGreatDoorI01
import Derived.Laws.Bits64b
import Derived.Test.YtaajkbclojmbeaaGreatDoorI05
import Derived.Test.YtaajkbclojmbeaaGreatDoorI02
import Derived.Test.YtaajkbclojmbeaaGreatDoorSh
import Derived.Test.YtaajkbclojmbeaaGreatDoorI03
import Derived.Test.YtaajkbclojmbeaaGreatDoorI09
import Derived.Lib.Hide
import Derived.Test.YtaajkbclojmbeaaGreatDoorI07
import Derived.Test.YtaajkbclojmbeaaGreatDoorI04
import Derived.Test.YtaajkbclojmbeaaGreatDoorI06
import Derived.Test.YtaajkbclojmbeaaGreatDoorI08
import Derived.Shelf.Abstract
namespace Go.Proofs.YtaajkbclojmbeaaGreatDoor
open Go Go.RowKit

theorem wrap8_nat (n : Nat) : IntKind.u8.wrap (n : Int) = ((n % 256 : Nat) : Int) := by
  show (n : Int) % (2 ^ 8 : Int) = _
  rfl

theorem byte_of (n k : Nat) : UInt8.ofNat (IntKind.u8.wrap ((n : Int) / ((k : Nat) : Int))).toNat = UInt8.ofNat (n / k % 256) := by
  rw [← Int.natCast_ediv, wrap8_nat, Int.toNat_natCast]

theorem be8_bytes {v : Int} (h : 0 ≤ v) : (be8 v).map (fun n => UInt8.ofNat n.toNat) = M.be 8 v.toNat := by
  obtain ⟨n, rfl⟩ := Int.eq_ofNat_of_zero_le h
  rw [Int.toNat_natCast, M.be8_eq]
  simp only [be8, List.map_cons, List.map_nil]
  rw [show (2 : Int) ^ (56 : Int).toNat = ((72057594037927936 : Nat) : Int) from rfl, show (2 : Int) ^ (48 : Int).toNat = ((281474976710656 : Nat) : Int) from rfl, show (2 : Int) ^ (40 : Int).toNat = ((1099511627776 : Nat) : Int) from rfl, show (2 : Int) ^ (32 : Int).toNat = ((4294967296 : Nat) : Int) from rfl, show (2 : Int) ^ (24 : Int).toNat = ((16777216 : Nat) : Int) from rfl, show (2 : Int) ^ (16 : Int).toNat = ((65536 : Nat) : Int) from rfl, show (2 : Int) ^ (8 : Int).toNat = ((256 : Nat) : Int) from rfl, show (2 : Int) ^ (0 : Int).toNat = ((1 : Nat) : Int) from rfl]
  rw [byte_of, byte_of, byte_of, byte_of, byte_of, byte_of, byte_of, byte_of, Nat.div_one]

theorem fixed_any (N : Nat) (w : World) (hN : M.In N) :
    Calls Tryz.prog 138 #[wn N] w fun e w' => e = .returned (.string ⟨(M.f32 N).toArray⟩) ∧ Below w.heap.size w w' := by
  have := callsIn_wide.1 (fixed_in (M.pt 0 N) (M.pt 1 N) (M.pt 2 N) (M.pt 3 N) w)
  have e : strOfNums (be8 (M.pt 3 N) ++ be8 (M.pt 2 N) ++ be8 (M.pt 1 N) ++ be8 (M.pt 0 N)) = ⟨(M.f32 N).toArray⟩ := by
    unfold strOfNums
    rw [List.map_append, List.map_append, List.map_append, be8_bytes (M.pt_nonneg _ _), be8_bytes (M.pt_nonneg _ _), be8_bytes (M.pt_nonneg _ _), be8_bytes (M.pt_nonneg _ _), ← M.f32_parts hN]
  rw [e] at this
  exact this

theorem st8_nat (n : Nat) (c : UInt8) (h : n < 72057594037927936) : st8 n c = ((n * 256 + c.toNat : Nat) : Int) := by
  have hc := c.toNat_lt
  unfold st8
  have e1 : IntKind.u64.wrap ((n : Int) * 256) = ((n * 256 : Nat) : Int) := by rw [IntKind.wrap_u64]; omega
  have e2 : IntKind.u64.wrap (c.toNat : Int) = ((c.toNat : Nat) : Int) := by rw [IntKind.wrap_u64]; omega
  rw [e1, e2, bits_or_u64_nat _ _ (by omega) (by omega)]
  have := Nat.two_pow_add_eq_or_of_lt (i := 8) (b := c.toNat) (by omega) n
  rw [Nat.mul_comm n 256]
  exact congrArg _ this.symm

theorem st8_dg (l : List UInt8) (c : UInt8) (h : l.length ≤ 7) : st8 (M.dg l : Nat) c = ((M.dg (l ++ [c]) : Nat) : Int) := by
  rw [M.dg_snoc]
  refine st8_nat _ _ (Nat.lt_of_lt_of_le (M.dg_lt l) ?_)
  exact Nat.pow_le_pow_right (n := 256) (by omega) h

theorem eight (c0 c1 c2 c3 c4 c5 c6 c7 : UInt8) : st8 (st8 (st8 (st8 (st8 (st8 (st8 (st8 0 c0) c1) c2) c3) c4) c5) c6) c7 = ((M.dg [c0, c1, c2, c3, c4, c5, c6, c7] : Nat) : Int) := by
  have e0 : st8 0 c0 = ((M.dg [c0] : Nat) : Int) := st8_dg [] c0 (by simp)
  rw [e0, st8_dg [c0] c1 (by simp), List.singleton_append, st8_dg [c0, c1] c2 (by simp)]
  simp only [List.cons_append, List.nil_append]
  rw [st8_dg [c0, c1, c2] c3 (by simp)]
  simp only [List.cons_append, List.nil_append]
  rw [st8_dg [c0, c1, c2, c3] c4 (by simp)]
  simp only [List.cons_append, List.nil_append]
  rw [st8_dg [c0, c1, c2, c3, c4] c5 (by simp)]
  simp only [List.cons_append, List.nil_append]
  rw [st8_dg [c0, c1, c2, c3, c4, c5] c6 (by simp)]
  simp only [List.cons_append, List.nil_append]
  rw [st8_dg [c0, c1, c2, c3, c4, c5, c6] c7 (by simp)]
  simp only [List.cons_append, List.nil_append]

end Go.Proofs.YtaajkbclojmbeaaGreatDoor
namespace Go.Proofs.YtaajkbclojmbeaaGreatDoor
open Go Go.RowKit

theorem small_in {N : Nat} (h : N < 18446744073709551616) : M.pt 0 N = N ∧ M.pt 1 N = 0 ∧ M.pt 2 N = 0 ∧ M.pt 3 N = 0 :=
  M.parts (by omega) (by omega) (by omega) (by omega) (by omega) (by omega) (by omega) (by omega) (by omega)
theorem wn_small (n : Nat) (h : n < 18446744073709551616) : wn n = wd n 0 0 0 := by
  obtain ⟨h0, h1, h2, h3⟩ := small_in h
  unfold wn
  rw [h0, h1, h2, h3]
theorem rnbe_any (N : Nat) (w : World) (h : N < 18446744073709551616) :
    Calls Tryz.prog 178 #[.int .u64 N] w fun e w' => e = .returned (.string ⟨(M.tr (M.f32 N)).toArray⟩) ∧ Below w.heap.size w w' := by
  have hb := fun w => rbytes_core N w
  rw [wn_small N h] at hb
  have HB := Lib.hid hb
  clear hb
  go_enter Tryz.func178, Tryz.ntmps178
  go_wp2_with fail
  refine (HB.out _).mono ?_
  rintro e w1 ⟨rfl, hb1⟩
  go_wp2_with fail
  go_ret
  exact ⟨rfl, hb1⟩

/-- The bytes that have come, the lowest ones first. -/
def lo8 (N k : Nat) : List Int := (List.range k).map fun t => ((N / 256 ^ t % 256 : Nat) : Int)
theorem lo8_succ (N k : Nat) : lo8 N (k + 1) = lo8 N k ++ [((N / 256 ^ k % 256 : Nat) : Int)] := by simp [lo8, List.range_succ]
theorem lo8_length (N k : Nat) : (lo8 N k).length = k := by simp [lo8]
theorem lo8_bytes (k N : Nat) : (lo8 N k).map (fun n => UInt8.ofNat n.toNat) = M.le k N := by
  apply List.ext_getElem
  · simp [M.le_length, lo8_length]
  · intro i h1 h2
    have hi : i < k := by simpa [lo8_length] using h1
    have e := M.le_get k N i hi
    rw [List.getD_eq_getElem?_getD, List.getElem?_eq_getElem h2, Option.getD_some] at e
    rw [e]
    simp only [lo8, List.getElem_map, List.getElem_range, Int.toNat_natCast]

set_option maxRecDepth 100000 in
set_option maxHeartbeats 2000000 in
theorem rle_ok (N k : Nat) (w : World) (hN : N < 18446744073709551616) (hk1 : 1 ≤ k) (hk8 : k ≤ 8) (hl : (M.tr (M.f32 N)).length ≤ k) :
    Calls Tryz.prog 169 #[.int .u64 N, .int .i64 k] w fun e w' => e = .returned (.tuple #[.string ⟨(M.le k N).toArray⟩, .int .i64 0]) ∧ Below w.heap.size w w' := by
  obtain ⟨i0, hi, hz0, hz1, hz2⟩ := info_parts Tryz.infoU8
  have hbe := fun w => rnbe_any N w hN
  obtain ⟨lb, hlb⟩ : ∃ lb, M.tr (M.f32 N) = lb := ⟨_, rfl⟩
  rw [hlb] at hl hbe
  clear hlb
  have hd1 : decide (k < lb.length) = false := by simp; omega
  have hd2 : decide ((k : Int) < 1) = false := by simp; omega
  have hd3 : decide ((8 : Int) < k) = false := by simp; omega
  go_enter Tryz.func169, Tryz.ntmps169
  go_wp2_with (go_at_call 178; refine (hbe _).mono ?_; rintro e w1 ⟨rfl, hb1⟩)
  clear hbe
  go_loopw [0, 6, 7] (fun n v i wr => ∃ j : Nat, j ≤ k ∧ i = .int .i64 j ∧ n = .int .u64 ((N / 256 ^ j : Nat) : Int) ∧ wr.ownsRow w.heap.size 5 1 v j ((lo8 N j).map (Value.int .u8)) ∧ Below w.heap.size w wr)
    (fun _ _ i _ => k - (intOf i).toNat)
  case atStart => exact ⟨0, by omega, rfl, by simp, World.ownsRow_nil _ _ _ _, hb1⟩
  case round =>
    obtain ⟨j, hj, rfl, rfl, hown, LW⟩ := hrel
    obtain ⟨n, hn⟩ : ∃ n, N / 256 ^ j = n := ⟨_, rfl⟩
    rw [hn]
    have hnl : n < 18446744073709551616 := by rw [← hn]; exact Nat.lt_of_le_of_lt (Nat.div_le_self _ _) hN
    have HN := Lib.hid hn
    clear hn
    by_cases hlt : j < k
    · have hsz := LW.size
      have hx : IntKind.u8.wrap (((n % 256 : Nat) : Int)) = ((n % 256 : Nat) : Int) := by
        simp only [IntKind.wrap, IntKind.bits, IntKind.signed]
        simp
      go_wp2_with (at_builtin; refine wpList_append_own _ rfl _ _ 41 rfl w.heap.size 5 i0 (.int .u8 0) 1 1 Tryz.underlying41 hi hz0 hz1 hz2 rfl (by decide) _ _ _ rfl (hown.alloc _) ⟨wr.heap.size, 0, none⟩ 1 1 [.int .u8 ((n : Int) % 256)] rfl rfl (cell_one_new _ _ _) (by simp [Value.oneCell']) (by unfold maxLen; omega) (by omega) (by simp; omega) ?_; intro v' w2 hown' hgrow _)
      have hown2 : w2.ownsRow w.heap.size 5 1 v' (j + 1) ((lo8 N (j + 1)).map (Value.int .u8)) := by
        rw [lo8_succ, HN.out, List.map_append]
        exact hown'
      have hbel : Below w.heap.size wr w2 := ((Below.refl _ wr).alloc (by omega) _).grown hgrow (by simp; omega) (fun q e => (hown.lt q e).1)
      have hq : ((N / 256 ^ (j + 1) : Nat) : Int) = (n : Int) / 256 := by
        rw [Nat.pow_succ, ← Nat.div_div_eq_div_mul, HN.out]
        rfl
      clear hown hown' hgrow
      exact ⟨⟨j + 1, by omega, by simp, by rw [hq], hown2, LW.trans hbel⟩, by simp [intOf]; omega⟩
    · obtain rfl : j = k := by omega
      obtain ⟨g, cap, rfl, hcells⟩ := row_cells hown (by omega)
      have hr := run_convert_bytes_arg wr 41 5 Tryz.underlying41 Tryz.underlying5 g 0 j cap (lo8 N j) (lo8_length N j) (fun i hi => by rw [Nat.zero_add]; exact hcells i (by rw [lo8_length]; exact hi)) 9 Tryz.underlying9
      clear hown hcells
      have e : strOfNums (lo8 N j) = ⟨(M.le j N).toArray⟩ := by unfold strOfNums; rw [lo8_bytes]
      rw [e] at hr
      clear e
      go_wp2_with fail
      go_ret2
      exact ⟨rfl, LW⟩

end Go.Proofs.YtaajkbclojmbeaaGreatDoor
namespace Go.Proofs.YtaajkbclojmbeaaGreatDoor
open Go Go.RowKit Go.Shelf

theorem trimLeft_any (l : List UInt8) (w : World) :
    Calls Tryz.prog 137 #[.string ⟨l.toArray⟩, .string ⟨#[0]⟩] w fun e w' => e = .returned (.string ⟨(M.tr l).toArray⟩) ∧ w = w' :=
  (Any.strings_TrimLeft_one lays161 ⟨l.toArray⟩ 0 (by decide) w).mono fun _ _ ⟨h1, h2⟩ => ⟨h1, h2.symm⟩

theorem bytes_any (N : Nat) (w : World) (hN : M.In N) :
    Calls Tryz.prog 79 #[wn N] w fun e w' => e = .returned (.string ⟨(M.tr (M.f32 N)).toArray⟩) ∧ Below w.heap.size w w' := by
  go_enter Tryz.func79, Tryz.ntmps79
  go_wp2_with fail
  refine (fixed_any N _ hN).mono ?_
  rintro e w1 ⟨rfl, hb⟩
  go_wp2_with fail
  refine (trimLeft_any (M.f32 N) _).mono ?_
  rintro e w2 ⟨rfl, rfl⟩
  go_wp2_with fail
  go_ret
  refine ⟨rfl, Below.trans ?_ (hb.mono (by first | omega | (simp; omega) | simp))⟩
  (repeat (first | exact Below.refl _ _ | refine Below.drew ?_ | refine Below.alloc ?_ (by first | omega | (simp; omega) | simp) _ | refine Below.setCell ?_ (by first | omega | (simp; omega) | simp) _))


theorem in_small (n : Nat) (h : n < 18446744073709551616) : M.In n := by unfold M.In; omega

theorem bytes_small (N : Nat) (w : World) (h : N < 18446744073709551616) :
    Calls Tryz.prog 79 #[wd N 0 0 0] w fun e w' => e = .returned (.string ⟨(M.tr (M.f32 N)).toArray⟩) ∧ Below w.heap.size w w' := by
  have := bytes_any N w (in_small N h)
  rwa [wn_small N h] at this

end Go.Proofs.YtaajkbclojmbeaaGreatDoor
namespace Go.Proofs.YtaajkbclojmbeaaGreatDoor
open Go Go.RowKit

theorem of_any (n : Int) (w : World) :
    Calls Tryz.prog 85 #[.int .u64 n] w fun e w' => e = .returned (wd n 0 0 0) ∧ Below w.heap.size w w' := by
  go_enter Tryz.func85, Tryz.ntmps85
  go_wp2
  exact bodyPost_ret (v := wd n 0 0 0) (by simp [results, Tryz.results85, go_sem]) rfl ⟨rfl, (Below.refl _ _).alloc (Nat.le_refl _) _⟩

end Go.Proofs.YtaajkbclojmbeaaGreatDoor
namespace Go.Proofs.YtaajkbclojmbeaaGreatDoor
open Go Go.RowKit Go.Shelf
attribute [local go_sem] Oper.semAt_some

set_option maxRecDepth 100000 in
set_option maxHeartbeats 2000000 in
theorem less_in (a0 a1 a2 a3 b0 b1 b2 b3 : Int) (r : Bool) (w : World)
    (hsame : a3 = b3 → a2 = b2 → a1 = b1 → a0 = b0 → r = false)
    (hdiff : ∀ (p : List (Fin 4)) (y : Fin 4), (p ++ [y] = [3] ∨ p ++ [y] = [3, 2] ∨ p ++ [y] = [3, 2, 1] ∨ p ++ [y] = [3, 2, 1, 0]) → (∀ z ∈ p, at4 a0 a1 a2 a3 z = at4 b0 b1 b2 b3 z) → at4 a0 a1 a2 a3 y ≠ at4 b0 b1 b2 b3 y → decide (at4 a0 a1 a2 a3 y < at4 b0 b1 b2 b3 y) = r) :
    CallsIn Fence.wide 4 Tryz.prog 84 #[wd a0 a1 a2 a3, wd b0 b1 b2 b3] w fun e W' => e = .returned (.bool r) ∧ Below w.heap.size w W' := by
  have hro : Fence.wide.round = none := rfl
  refine callsIn_of_wp_marks Tryz.func84 rfl trivial ?_ hro
  simp only [Tryz.ntmps84, List.size_toArray, List.length_cons, List.length_nil, Nat.reduceAdd, Nat.reduceSub, Array.replicate_succ, Array.replicate_zero, List.push_toArray, List.append_toArray, List.nil_append, List.cons_append]
  have HS := Lib.hid hsame
  have HD := Lib.hid hdiff
  clear hsame hdiff
  gi_wp2_with (refine ⟨trivial, ?_⟩; gi_at_call 139; refine (top_in _ _ trivial rfl _ _ _ _ _).mono ?_; rintro e w' ⟨rfl, rfl⟩)
  generalize hW0 : ((((w.alloc (Obj.cells #[.int .u64 a0, .int .u64 a1, .int .u64 a2, .int .u64 a3] 34)).alloc (Obj.cells #[.int .u64 b0, .int .u64 b1, .int .u64 b2, .int .u64 b3] 34)).alloc (Obj.cells #[.bool false] 4)).alloc (Obj.cells #[.int .u64 a0, .int .u64 a1, .int .u64 a2, .int .u64 a3] 34)) = W0
  have hB0 : Below w.heap.size w W0 := by rw [← hW0]; (repeat (first | exact Below.refl _ _ | refine Below.drew ?_ | refine Below.alloc ?_ (by first | omega | (simp; omega) | simp) _ | refine Below.setCell ?_ (by first | omega | (simp; omega) | simp) _))
  have hsz : W0.heap.size = w.heap.size + 4 := by rw [← hW0]; simp
  have k0 : W0.cell? ⟨w.heap.size + 1 + 1 + 1, 0, none⟩ = some (.int .u64 a0) := by rw [← hW0]; simp [go_sem]
  have k1 : W0.cell? ⟨w.heap.size + 1 + 1 + 1, 1, none⟩ = some (.int .u64 a1) := by rw [← hW0]; simp [go_sem]
  have k2 : W0.cell? ⟨w.heap.size + 1 + 1 + 1, 2, none⟩ = some (.int .u64 a2) := by rw [← hW0]; simp [go_sem]
  have k3 : W0.cell? ⟨w.heap.size + 1 + 1 + 1, 3, none⟩ = some (.int .u64 a3) := by rw [← hW0]; simp [go_sem]
  have e0 : W0.cell? ⟨w.heap.size + 1, 0, none⟩ = some (.int .u64 b0) := by rw [← hW0]; simp [go_sem]
  have e1 : W0.cell? ⟨w.heap.size + 1, 1, none⟩ = some (.int .u64 b1) := by rw [← hW0]; simp [go_sem]
  have e2 : W0.cell? ⟨w.heap.size + 1, 2, none⟩ = some (.int .u64 b2) := by rw [← hW0]; simp [go_sem]
  have e3 : W0.cell? ⟨w.heap.size + 1, 3, none⟩ = some (.int .u64 b3) := by rw [← hW0]; simp [go_sem]
  have g0 : W0.cell? ⟨w.heap.size + 1 + 1, 0, none⟩ = some (.bool false) := by rw [← hW0]; simp [go_sem]
  have g1 : W0.frozen? ⟨w.heap.size + 1 + 1, 0, none⟩ = false := by rw [← hW0]; simp [go_sem]
  clear hW0
  refine wpIn_rangeFunc_ownF hro (by omega) (gf := 164) (lb := #[.pointer (some ⟨w.heap.size + 1 + 1 + 1, 0, none⟩)]) rfl trivial (enters_of Tryz.func164 (by kernel_rfl) rfl)
    (top_stops Fence.wide 3 trivial rfl (by omega) (w.heap.size + 1 + 1 + 1) a0 a1 a2 a3 W0 (by omega) k0 k1 k2 k3) keepsB_t (keepsB_b (by omega)) (Below.refl _ _) (fun _ => rfl)
    (fun pre W => ((∀ z ∈ pre, at4 a0 a1 a2 a3 z = at4 b0 b1 b2 b3 z) ∧ W.cell? ⟨w.heap.size + 1, 0, none⟩ = some (.int .u64 b0) ∧ W.cell? ⟨w.heap.size + 1, 1, none⟩ = some (.int .u64 b1) ∧ W.cell? ⟨w.heap.size + 1, 2, none⟩ = some (.int .u64 b2) ∧ W.cell? ⟨w.heap.size + 1, 3, none⟩ = some (.int .u64 b3) ∧ W.cell? ⟨w.heap.size + 1 + 1, 0, none⟩ = some (.bool false) ∧ W.frozen? ⟨w.heap.size + 1 + 1, 0, none⟩ = false) ∧ Below w.heap.size w W)
    (fun c pre W => (c = .ret ∧ (∃ p y, pre = p ++ [y] ∧ (∀ z ∈ p, at4 a0 a1 a2 a3 z = at4 b0 b1 b2 b3 z) ∧ at4 a0 a1 a2 a3 y ≠ at4 b0 b1 b2 b3 y ∧ W.cell? ⟨w.heap.size + 1 + 1, 0, none⟩ = some (.bool (decide (at4 a0 a1 a2 a3 y < at4 b0 b1 b2 b3 y))))) ∧ Below w.heap.size w W)
    (OwnFrom.and (Own.from (fun s A B row hs hg hr => ⟨hs.1, cell_kept hs.2.1 hg hr, cell_kept hs.2.2.1 hg hr, cell_kept hs.2.2.2.1 hg hr, cell_kept hs.2.2.2.2.1 hg hr, cell_kept hs.2.2.2.2.2.1 hg hr, (frozen_kept hs.2.2.2.2.2.1 hg hr).trans hs.2.2.2.2.2.2⟩) _) (ownFrom_below (Nat.le_refl _) (by omega)))
    (fun c => OwnFrom.and (Own.from (fun s A B row hs hg hr => by
      obtain ⟨h1, p, y, h2, h3, h4, h5⟩ := hs
      exact ⟨h1, p, y, h2, h3, h4, cell_kept h5 hg hr⟩) _) (ownFrom_below (Nat.le_refl _) (by omega)))
    ⟨⟨by simp, e0, e1, e2, e3, g0, g1⟩, hB0⟩
    (fun x => { tmps := #[wd a0 a1 a2 a3, wd b0 b1 b2 b3, .pointer (some ⟨w.heap.size, 0, none⟩), .pointer (some ⟨w.heap.size + 1, 0, none⟩), .pointer (some ⟨w.heap.size + 1 + 1, 0, none⟩), .int .i64 (x.val : Int), .int .u64 (at4 a0 a1 a2 a3 x), wd a0 a1 a2 a3, .func (.func 164) #[] #[.pointer (some ⟨w.heap.size + 1 + 1 + 1, 0, none⟩)], .int .i64 (x.val : Int), .int .u64 (at4 a0 a1 a2 a3 x), undef, undef, undef, undef, undef, undef, undef, undef, undef, undef], defers := [] }) ?assign ?body ?done ?stop
  case assign =>
    intro l x W K hK
    gi_wp2
    exact hK
  case body =>
    rintro l pre x W ⟨⟨hp, hb0, hb1, hb2, hb3, hc, hf⟩, hB⟩ _
    have HP := Lib.hid hp
    clear hp e0 e1 e2 e3 k0 k1 k2 k3 g0 g1 hB0 hsz
    match x with
    | 0 =>
      gi_wp2
      · have hx : (at4 a0 a1 a2 a3 0 != b0) = true := by assumption
        exact ⟨KeepsOthers.setCell _ _ _, ⟨rfl, pre, 0, rfl, HP.out, bne_iff_ne.1 hx, World.cell?_setCell_same' _ _ _ (by rw [hc]; rfl)⟩, hB.setCell (p := ⟨w.heap.size + 1 + 1, 0, none⟩) (by simp; omega) _⟩
      · have hx : (at4 a0 a1 a2 a3 0 != b0) = false := by assumption
        exact ⟨KeepsOthers.refl _, fun _ => rfl, ⟨fun z hz => (List.mem_append.1 hz).elim (HP.out z) (fun e => by simp at e; subst e; exact bne_eq_false_iff_eq.1 hx), hb0, hb1, hb2, hb3, hc, hf⟩, hB⟩
    | 1 =>
      gi_wp2
      · have hx : (at4 a0 a1 a2 a3 1 != b1) = true := by assumption
        exact ⟨KeepsOthers.setCell _ _ _, ⟨rfl, pre, 1, rfl, HP.out, bne_iff_ne.1 hx, World.cell?_setCell_same' _ _ _ (by rw [hc]; rfl)⟩, hB.setCell (p := ⟨w.heap.size + 1 + 1, 0, none⟩) (by simp; omega) _⟩
      · have hx : (at4 a0 a1 a2 a3 1 != b1) = false := by assumption
        exact ⟨KeepsOthers.refl _, fun _ => rfl, ⟨fun z hz => (List.mem_append.1 hz).elim (HP.out z) (fun e => by simp at e; subst e; exact bne_eq_false_iff_eq.1 hx), hb0, hb1, hb2, hb3, hc, hf⟩, hB⟩
    | 2 =>
      gi_wp2
      · have hx : (at4 a0 a1 a2 a3 2 != b2) = true := by assumption
        exact ⟨KeepsOthers.setCell _ _ _, ⟨rfl, pre, 2, rfl, HP.out, bne_iff_ne.1 hx, World.cell?_setCell_same' _ _ _ (by rw [hc]; rfl)⟩, hB.setCell (p := ⟨w.heap.size + 1 + 1, 0, none⟩) (by simp; omega) _⟩
      · have hx : (at4 a0 a1 a2 a3 2 != b2) = false := by assumption
        exact ⟨KeepsOthers.refl _, fun _ => rfl, ⟨fun z hz => (List.mem_append.1 hz).elim (HP.out z) (fun e => by simp at e; subst e; exact bne_eq_false_iff_eq.1 hx), hb0, hb1, hb2, hb3, hc, hf⟩, hB⟩
    | 3 =>
      have hv : ((3 : Fin 4) : Nat) = 3 := rfl
      gi_wp2
      · have hx : (at4 a0 a1 a2 a3 3 != b3) = true := by assumption
        exact ⟨KeepsOthers.setCell _ _ _, ⟨rfl, pre, 3, rfl, HP.out, bne_iff_ne.1 hx, World.cell?_setCell_same' _ _ _ (by rw [hc]; rfl)⟩, hB.setCell (p := ⟨w.heap.size + 1 + 1, 0, none⟩) (by simp; omega) _⟩
      · have hx : (at4 a0 a1 a2 a3 3 != b3) = false := by assumption
        exact ⟨KeepsOthers.refl _, fun _ => rfl, ⟨fun z hz => (List.mem_append.1 hz).elim (HP.out z) (fun e => by simp at e; subst e; exact bne_eq_false_iff_eq.1 hx), hb0, hb1, hb2, hb3, hc, hf⟩, hB⟩
  case done =>
    rintro D ys W hD rfl ⟨⟨hall, _, _, _, _, hcr, hfr⟩, hB⟩ hK
    have hr : r = false := HS.out (hall 3 (by simp)) (hall 2 (by simp)) (hall 1 (by simp)) (hall 0 (by simp))
    have HR := Lib.hid hr
    clear hr hall
    gi_wp2
    have hK' := (KeepsOthers.setCell W ⟨w.heap.size + 1 + 1, 0, none⟩ (.bool false)).same D _ hK rfl
    refine ⟨by simp, .inl ⟨_, _, rfl, run_takeDeferred hK', ?_⟩⟩
    have hc5 := cell_kept (World.cell?_setCell_same' W ⟨w.heap.size + 1 + 1, 0, none⟩ (.bool false) (by rw [hcr]; rfl)) (grownBy_putObj' _ D (.deferred none)) (fun r e => by cases e; exact ⟨_, hK', rfl⟩)
    refine ⟨.bool false, ?_, by rw [HR.out], (hB.setCell (p := ⟨w.heap.size + 1 + 1, 0, none⟩) (by simp; omega) _).trans (belowK_b (w := w) (Nat.le_refl _) _ D _ _ (by omega) hK' rfl rfl)⟩
    simp [results, Tryz.f84, go_sem, hc5]
  case stop =>
    rintro D c pre W hD hpre ⟨⟨rfl, p, y, rfl, hin, hne, hcr⟩, hB⟩ hK
    have hr := HD.out p y hpre hin hne
    rw [hr] at hcr
    clear hr hin hne hpre
    gi_wp2
    refine ⟨by simp, .inl ⟨_, _, rfl, run_takeDeferred hK, ?_⟩⟩
    have hc5 := cell_kept hcr (grownBy_putObj' _ D (.deferred none)) (fun r e => by cases e; exact ⟨_, hK, rfl⟩)
    refine ⟨.bool r, ?_, rfl, hB.trans (belowK_b (w := w) (Nat.le_refl _) W D _ _ (by omega) hK rfl rfl)⟩
    simp [results, Tryz.f84, go_sem, hc5]

theorem less_any (A B : Nat) (w : World) (hA : M.In A) (hB : M.In B) :
    Calls Tryz.prog 84 #[wn A, wn B] w fun e w' => e = .returned (.bool (decide (A < B))) ∧ Below w.heap.size w w' := by
  have eA := M.whole hA
  have eB := M.whole hB
  have l0 := M.pt_nonneg 0 A
  have l1 := M.pt_nonneg 1 A
  have l2 := M.pt_nonneg 2 A
  have u0 := M.pt_lt 0 A
  have u1 := M.pt_lt 1 A
  have u2 := M.pt_lt 2 A
  have m0 := M.pt_nonneg 0 B
  have m1 := M.pt_nonneg 1 B
  have m2 := M.pt_nonneg 2 B
  have v0 := M.pt_lt 0 B
  have v1 := M.pt_lt 1 B
  have v2 := M.pt_lt 2 B
  refine callsIn_wide.1 (less_in _ _ _ _ _ _ _ _ _ w ?_ ?_)
  · intro h3 h2 h1 h0
    rw [decide_eq_false_iff_not]
    omega
  · intro p y hp hz hy
    have hs : ∀ (x : Fin 4) (q : List (Fin 4)), p ++ [y] = q ++ [x] → p = q ∧ y = x := fun x q h => by simpa using h
    rw [decide_eq_decide]
    rcases hp with h | h | h | h
    · obtain ⟨rfl, rfl⟩ := hs 3 [] h
      replace hy : M.pt 3 A ≠ M.pt 3 B := hy
      show M.pt 3 A < M.pt 3 B ↔ A < B
      omega
    · obtain ⟨rfl, rfl⟩ := hs 2 [3] h
      replace hy : M.pt 2 A ≠ M.pt 2 B := hy
      have z3 : M.pt 3 A = M.pt 3 B := hz 3 (by simp)
      show M.pt 2 A < M.pt 2 B ↔ A < B
      omega
    · obtain ⟨rfl, rfl⟩ := hs 1 [3, 2] h
      replace hy : M.pt 1 A ≠ M.pt 1 B := hy
      have z3 : M.pt 3 A = M.pt 3 B := hz 3 (by simp)
      have z2 : M.pt 2 A = M.pt 2 B := hz 2 (by simp)
      show M.pt 1 A < M.pt 1 B ↔ A < B
      omega
    · obtain ⟨rfl, rfl⟩ := hs 0 [3, 2, 1] h
      replace hy : M.pt 0 A ≠ M.pt 0 B := hy
      have z3 : M.pt 3 A = M.pt 3 B := hz 3 (by simp)
      have z2 : M.pt 2 A = M.pt 2 B := hz 2 (by simp)
      have z1 : M.pt 1 A = M.pt 1 B := hz 1 (by simp)
      show M.pt 0 A < M.pt 0 B ↔ A < B
      omega
end Go.Proofs.YtaajkbclojmbeaaGreatDoor
namespace Go.Proofs.YtaajkbclojmbeaaGreatDoor
open Go Go.RowKit

def M.fu (b : Bool) : Nat := if b then 0 else 2
/-- What is wrong with the parts that the kind names. -/
def M.ownF (k n : Int) (m : Nat) : M.Va → Nat
  | .mk num bits items pick =>
    if k = 1 then M.fu (decide (((M.tr (M.f32 num)).length : Int) ≤ n))
    else if k = 2 then M.fu (decide (num < 2))
    else if k = 3 then M.fu (decide ((items.length : Int) = n))
    else if k = 4 then (if n < items.length then 5 else 0)
    else if k = 5 then M.fu (decide ((bits.length : Int) = n))
    else if k = 6 then (if n < bits.length then 5 else 0)
    else if k = 7 then M.fu (decide ((items.length : Int) = m))
    else if pick < 0 ∨ (m : Int) ≤ pick then 2 else M.fu (decide ((items.length : Int) = 1))

theorem unless_any (b : Bool) (w : World) : Calls Tryz.prog 78 #[.bool b] w fun e w' => e = .returned (.int .i64 (M.fu b : Nat)) ∧ w' = w := by
  cases b with
  | true =>
    go_enter Tryz.func78, Tryz.ntmps78
    go_wp2_with fail
    go_ret
    exact ⟨rfl, rfl⟩
  | false =>
    go_enter Tryz.func78, Tryz.ntmps78
    go_wp2_with fail
    go_ret
    exact ⟨rfl, rfl⟩
theorem exactly_items (n : Int) (l : Nat) (a : Option Addr) (cap : Nat) (w : World) : Calls Tryz.prog 89 #[.int .i64 n, .slice a l cap] w fun e w' => e = .returned (.int .i64 (M.fu (decide ((l : Int) = n)) : Nat)) ∧ w' = w := by
  have HU := Lib.hid (fun W => unless_any (decide ((l : Int) = n)) W)
  by_cases h : (l : Int) = n
  · rw [decide_eq_true h] at HU ⊢
    have h' : ((l : Int) == n) = true := by simpa using h
    clear h
    go_enter Tryz.func89, Tryz.ntmps89
    go_wp2_with fail
    refine (HU.out _).mono ?_
    rintro e w1 ⟨rfl, rfl⟩
    go_wp2_with fail
    go_ret
    exact ⟨rfl, rfl⟩
  · rw [decide_eq_false h] at HU ⊢
    have h' : ((l : Int) == n) = false := by simpa using h
    clear h
    go_enter Tryz.func89, Tryz.ntmps89
    go_wp2_with fail
    refine (HU.out _).mono ?_
    rintro e w1 ⟨rfl, rfl⟩
    go_wp2_with fail
    go_ret
    exact ⟨rfl, rfl⟩
theorem most_items (n : Int) (l : Nat) (a : Option Addr) (cap : Nat) (w : World) : Calls Tryz.prog 93 #[.int .i64 n, .slice a l cap] w fun e w' => e = .returned (.int .i64 ((if n < (l : Int) then 5 else 0 : Nat) : Int)) ∧ w' = w := by
  by_cases h : n < (l : Int)
  · rw [if_pos h]
    go_enter Tryz.func93, Tryz.ntmps93
    go_wp2_with fail
    go_ret
    exact ⟨rfl, rfl⟩
  · rw [if_neg h]
    go_enter Tryz.func93, Tryz.ntmps93
    go_wp2_with fail
    go_ret
    exact ⟨rfl, rfl⟩
theorem exactly_bits (n : Int) (l : Nat) (a : Option Addr) (cap : Nat) (w : World) : Calls Tryz.prog 96 #[.int .i64 n, .slice a l cap] w fun e w' => e = .returned (.int .i64 (M.fu (decide ((l : Int) = n)) : Nat)) ∧ w' = w := by
  have HU := Lib.hid (fun W => unless_any (decide ((l : Int) = n)) W)
  by_cases h : (l : Int) = n
  · rw [decide_eq_true h] at HU ⊢
    have h' : ((l : Int) == n) = true := by simpa using h
    clear h
    go_enter Tryz.func96, Tryz.ntmps96
    go_wp2_with fail
    refine (HU.out _).mono ?_
    rintro e w1 ⟨rfl, rfl⟩
    go_wp2_with fail
    go_ret
    exact ⟨rfl, rfl⟩
  · rw [decide_eq_false h] at HU ⊢
    have h' : ((l : Int) == n) = false := by simpa using h
    clear h
    go_enter Tryz.func96, Tryz.ntmps96
    go_wp2_with fail
    refine (HU.out _).mono ?_
    rintro e w1 ⟨rfl, rfl⟩
    go_wp2_with fail
    go_ret
    exact ⟨rfl, rfl⟩
theorem most_bits (n : Int) (l : Nat) (a : Option Addr) (cap : Nat) (w : World) : Calls Tryz.prog 99 #[.int .i64 n, .slice a l cap] w fun e w' => e = .returned (.int .i64 ((if n < (l : Int) then 5 else 0 : Nat) : Int)) ∧ w' = w := by
  by_cases h : n < (l : Int)
  · rw [if_pos h]
    go_enter Tryz.func99, Tryz.ntmps99
    go_wp2_with fail
    go_ret
    exact ⟨rfl, rfl⟩
  · rw [if_neg h]
    go_enter Tryz.func99, Tryz.ntmps99
    go_wp2_with fail
    go_ret
    exact ⟨rfl, rfl⟩
/-- What a function that tells what is wrong must do. -/
def FaultC (k : Int) (g : FuncId) : Prop := ∀ (n : Int) (ts : List M.Ty) (a : Option Addr) (cap : Nat) (N : Nat) (bs : List Bool) (us : List M.Va) (p : Int) (ab : Option Addr) (cb : Nat) (au : Option Addr) (cu : Nat) (w : World), ts.length ≤ 1000 → Vl w w.heap.size N bs us ab cb au cu →
  Calls Tryz.prog g #[tv k n (.slice a ts.length cap), vv N (.slice ab bs.length cb) (.slice au us.length cu) p] w fun e w' => e = .returned (.int .i64 (M.ownF k n ts.length (.mk N bs us p) : Nat)) ∧ Below w.heap.size w w'
theorem fault_3 : FaultC 3 88 := by
  intro n ts a cap N bs us p ab cb au cu w hts hV
  have HU := Lib.hid (fun W => exactly_items n us.length au cu W)
  have hb0 := two_boxes w (.cells #[.int .i64 3, .int .i64 n, .slice a ts.length cap] 32) (.cells #[.int .u64 (M.pt 0 N), .int .u64 (M.pt 1 N), .int .u64 (M.pt 2 N), .int .u64 (M.pt 3 N), .slice ab bs.length cb, .slice au us.length cu, .int .i64 p] 38)
  obtain ⟨q, hq⟩ : ∃ q, q = M.ownF 3 n ts.length (.mk N bs us p) := ⟨_, rfl⟩
  rw [← hq]
  simp only [M.ownF, Int.reduceEq, ↓reduceIte] at hq
  rw [← hq] at HU
  clear hV hq
  go_enter Tryz.func88, Tryz.ntmps88
  go_wp2_with fail
  refine (HU.out _).mono ?_
  rintro e w1 ⟨rfl, rfl⟩
  go_wp2_with fail
  go_ret
  exact ⟨rfl, hb0⟩
theorem fault_4 : FaultC 4 92 := by
  intro n ts a cap N bs us p ab cb au cu w hts hV
  have HU := Lib.hid (fun W => most_items n us.length au cu W)
  have hb0 := two_boxes w (.cells #[.int .i64 4, .int .i64 n, .slice a ts.length cap] 32) (.cells #[.int .u64 (M.pt 0 N), .int .u64 (M.pt 1 N), .int .u64 (M.pt 2 N), .int .u64 (M.pt 3 N), .slice ab bs.length cb, .slice au us.length cu, .int .i64 p] 38)
  obtain ⟨q, hq⟩ : ∃ q, q = M.ownF 4 n ts.length (.mk N bs us p) := ⟨_, rfl⟩
  rw [← hq]
  simp only [M.ownF, Int.reduceEq, ↓reduceIte] at hq
  rw [← hq] at HU
  clear hV hq
  go_enter Tryz.func92, Tryz.ntmps92
  go_wp2_with fail
  refine (HU.out _).mono ?_
  rintro e w1 ⟨rfl, rfl⟩
  go_wp2_with fail
  go_ret
  exact ⟨rfl, hb0⟩
theorem fault_5 : FaultC 5 95 := by
  intro n ts a cap N bs us p ab cb au cu w hts hV
  have HU := Lib.hid (fun W => exactly_bits n bs.length ab cb W)
  have hb0 := two_boxes w (.cells #[.int .i64 5, .int .i64 n, .slice a ts.length cap] 32) (.cells #[.int .u64 (M.pt 0 N), .int .u64 (M.pt 1 N), .int .u64 (M.pt 2 N), .int .u64 (M.pt 3 N), .slice ab bs.length cb, .slice au us.length cu, .int .i64 p] 38)
  obtain ⟨q, hq⟩ : ∃ q, q = M.ownF 5 n ts.length (.mk N bs us p) := ⟨_, rfl⟩
  rw [← hq]
  simp only [M.ownF, Int.reduceEq, ↓reduceIte] at hq
  rw [← hq] at HU
  clear hV hq
  go_enter Tryz.func95, Tryz.ntmps95
  go_wp2_with fail
  refine (HU.out _).mono ?_
  rintro e w1 ⟨rfl, rfl⟩
  go_wp2_with fail
  go_ret
  exact ⟨rfl, hb0⟩
theorem fault_6 : FaultC 6 98 := by
  intro n ts a cap N bs us p ab cb au cu w hts hV
  have HU := Lib.hid (fun W => most_bits n bs.length ab cb W)
  have hb0 := two_boxes w (.cells #[.int .i64 6, .int .i64 n, .slice a ts.length cap] 32) (.cells #[.int .u64 (M.pt 0 N), .int .u64 (M.pt 1 N), .int .u64 (M.pt 2 N), .int .u64 (M.pt 3 N), .slice ab bs.length cb, .slice au us.length cu, .int .i64 p] 38)
  obtain ⟨q, hq⟩ : ∃ q, q = M.ownF 6 n ts.length (.mk N bs us p) := ⟨_, rfl⟩
  rw [← hq]
  simp only [M.ownF, Int.reduceEq, ↓reduceIte] at hq
  rw [← hq] at HU
  clear hV hq
  go_enter Tryz.func98, Tryz.ntmps98
  go_wp2_with fail
  refine (HU.out _).mono ?_
  rintro e w1 ⟨rfl, rfl⟩
  go_wp2_with fail
  go_ret
  exact ⟨rfl, hb0⟩
theorem fault_7 : FaultC 7 101 := by
  intro n ts a cap N bs us p ab cb au cu w hts hV
  have HU := Lib.hid (fun W => exactly_items (ts.length : Nat) us.length au cu W)
  have hb0 := two_boxes w (.cells #[.int .i64 7, .int .i64 n, .slice a ts.length cap] 32) (.cells #[.int .u64 (M.pt 0 N), .int .u64 (M.pt 1 N), .int .u64 (M.pt 2 N), .int .u64 (M.pt 3 N), .slice ab bs.length cb, .slice au us.length cu, .int .i64 p] 38)
  obtain ⟨q, hq⟩ : ∃ q, q = M.ownF 7 n ts.length (.mk N bs us p) := ⟨_, rfl⟩
  rw [← hq]
  simp only [M.ownF, Int.reduceEq, ↓reduceIte] at hq
  rw [← hq] at HU
  clear hV hq
  go_enter Tryz.func101, Tryz.ntmps101
  go_wp2_with fail
  refine (HU.out _).mono ?_
  rintro e w1 ⟨rfl, rfl⟩
  go_wp2_with fail
  go_ret
  exact ⟨rfl, hb0⟩
set_option maxRecDepth 100000 in
set_option maxHeartbeats 4000000 in
theorem fault_8 : FaultC 8 103 := by
  intro n ts a cap N bs us p ab cb au cu w hts hV
  have HU := Lib.hid (fun W => exactly_items 1 us.length au cu W)
  have hb0 := two_boxes w (.cells #[.int .i64 8, .int .i64 n, .slice a ts.length cap] 32) (.cells #[.int .u64 (M.pt 0 N), .int .u64 (M.pt 1 N), .int .u64 (M.pt 2 N), .int .u64 (M.pt 3 N), .slice ab bs.length cb, .slice au us.length cu, .int .i64 p] 38)
  clear hV
  by_cases h1 : p < 0
  · have HE : Hid (M.ownF 8 n ts.length (.mk N bs us p) = 2) := by show _ = _; simp [M.ownF, h1]
    go_enter Tryz.func103, Tryz.ntmps103
    go_wp2_with fail
    go_ret
    exact ⟨by rw [HE.out]; rfl, hb0⟩
  · by_cases h2 : (ts.length : Int) ≤ p
    · have HE : Hid (M.ownF 8 n ts.length (.mk N bs us p) = 2) := by show _ = _; simp [M.ownF, h2]
      go_enter Tryz.func103, Tryz.ntmps103
      go_wp2_with fail
      go_ret
      exact ⟨by rw [HE.out]; rfl, hb0⟩
    · have HE : Hid (M.ownF 8 n ts.length (.mk N bs us p) = M.fu (decide ((us.length : Int) = 1))) := by show _ = _; simp [M.ownF, h1, h2]
      go_enter Tryz.func103, Tryz.ntmps103
      go_wp2_with fail
      refine (HU.out _).mono ?_
      rintro e w1 ⟨rfl, rfl⟩
      go_wp2_with fail
      go_ret
      exact ⟨by rw [HE.out]; rfl, hb0⟩
set_option maxRecDepth 100000 in
set_option maxHeartbeats 4000000 in
theorem fault_1 : FaultC 1 77 := by
  intro n ts a cap N bs us p ab cb au cu w hts hV
  have hN := hV.hN
  have hlen : (M.tr (M.f32 N)).length ≤ 32 := by have := M.tr_length_le (M.f32 N); rwa [M.f32_length] at this
  obtain ⟨s, hs⟩ : ∃ s, s = M.tr (M.f32 N) := ⟨_, rfl⟩
  have HB : Hid (∀ W, Calls Tryz.prog 79 #[wn N] W fun e w' => e = .returned (.string ⟨s.toArray⟩) ∧ Below W.heap.size W w') := fun W => hs ▸ bytes_any N W hN
  have HE : Hid (M.ownF 1 n ts.length (.mk N bs us p) = M.fu (decide ((s.length : Int) ≤ n))) := by show _ = _; rw [hs]; simp [M.ownF]
  rw [← hs] at hlen
  clear hs hV
  obtain ⟨w0, hw0⟩ : ∃ w0, (w.alloc (.cells #[.int .i64 1, .int .i64 n, .slice a ts.length cap] 32)).alloc (.cells #[.int .u64 (M.pt 0 N), .int .u64 (M.pt 1 N), .int .u64 (M.pt 2 N), .int .u64 (M.pt 3 N), .slice ab bs.length cb, .slice au us.length cu, .int .i64 p] 38) = w0 := ⟨_, rfl⟩
  have hb0 : Below w.heap.size w w0 := by rw [← hw0]; exact two_boxes _ _ _
  have hz : w0.heap.size = w.heap.size + 2 := by rw [← hw0]; simp
  have kn : w0.cell? ⟨w.heap.size, 1, none⟩ = some (.int .i64 n) := by rw [← hw0]; simp [go_sem]
  have k0 : w0.cell? ⟨w.heap.size + 1, 0, none⟩ = some (.int .u64 (M.pt 0 N)) := by rw [← hw0]; simp [go_sem]
  have k1 : w0.cell? ⟨w.heap.size + 1, 1, none⟩ = some (.int .u64 (M.pt 1 N)) := by rw [← hw0]; simp [go_sem]
  have k2 : w0.cell? ⟨w.heap.size + 1, 2, none⟩ = some (.int .u64 (M.pt 2 N)) := by rw [← hw0]; simp [go_sem]
  have k3 : w0.cell? ⟨w.heap.size + 1, 3, none⟩ = some (.int .u64 (M.pt 3 N)) := by rw [← hw0]; simp [go_sem]
  have HW := Lib.hid hw0
  clear hw0
  go_enter Tryz.func77, Tryz.ntmps77
  go_wp2_with fail
  rw [HW.out]
  have mixed : Tryz.prog.follows .mixedOrders = true := by kernel_rfl
  refine region_quiet (C := fun W => Below w0.heap.size w0 W) mixed (by kernel_rfl) (Below.drew (Below.refl _ _)) ?_
  refine quiet_val (.pointer (some ⟨w.heap.size + 1, 0, none⟩)) (by rfl) (fun W hC => by go_simp) ?_
  simp only [Act.put, List.setIfInBounds_toArray, List.set_cons_zero, List.set_cons_succ]
  refine quiet_val (wn N) (by rfl) (fun W hC => by have a0 := (hC.cell (p := ⟨w.heap.size + 1, 0, none⟩) (by simp; omega)).trans k0; have a1 := (hC.cell (p := ⟨w.heap.size + 1, 1, none⟩) (by simp; omega)).trans k1; have a2 := (hC.cell (p := ⟨w.heap.size + 1, 2, none⟩) (by simp; omega)).trans k2; have a3 := (hC.cell (p := ⟨w.heap.size + 1, 3, none⟩) (by simp; omega)).trans k3; go_simp) ?_
  simp only [Act.put, List.setIfInBounds_toArray, List.set_cons_zero, List.set_cons_succ]
  refine quiet_call (.string ⟨s.toArray⟩) 79 #[wn N] (by rfl) (fun W _ => by go_simp) (fun W hC => (HB.out W).mono fun _ _ h => ⟨h.1, hC.trans (h.2.mono hC.size)⟩) ?_
  simp only [Act.put, List.setIfInBounds_toArray, List.set_cons_zero, List.set_cons_succ]
  refine quiet_val (.int .i64 s.length) (by rfl) (fun W hC => by go_simp) ?_
  simp only [Act.put, List.setIfInBounds_toArray, List.set_cons_zero, List.set_cons_succ]
  refine quiet_val (.pointer (some ⟨w.heap.size, 1, none⟩)) (by rfl) (fun W hC => by go_simp) ?_
  simp only [Act.put, List.setIfInBounds_toArray, List.set_cons_zero, List.set_cons_succ]
  refine quiet_val (.int .i64 n) (by rfl) (fun W hC => by have a1 := (hC.cell (p := ⟨w.heap.size, 1, none⟩) (by simp; omega)).trans kn; go_simp) ?_
  simp only [Act.put, List.setIfInBounds_toArray, List.set_cons_zero, List.set_cons_succ]
  refine quiet_val (.bool (decide ((s.length : Int) ≤ n))) (by rfl) (fun W hC => by go_simp) ?_
  simp only [Act.put, List.setIfInBounds_toArray, List.set_cons_zero, List.set_cons_succ]
  refine quiet_call (.int .i64 (M.fu (decide ((s.length : Int) ≤ n)) : Nat)) 78 #[.bool (decide ((s.length : Int) ≤ n))] (by rfl) (fun W _ => by go_simp) (fun W hC => (unless_any _ W).mono fun _ _ h => ⟨h.1, by rw [h.2]; exact hC⟩) ?_
  simp only [Act.put, List.setIfInBounds_toArray, List.set_cons_zero, List.set_cons_succ]
  refine quiet_val (.int .i64 (M.fu (decide ((s.length : Int) ≤ n)) : Nat)) (by rfl) (fun W hC => by go_simp) ?_
  simp only [Act.put, List.setIfInBounds_toArray, List.set_cons_zero, List.set_cons_succ]
  refine wpQuiet_nil ?_
  intro w1 hb1
  go_wp2_with fail
  go_ret
  exact ⟨by rw [HE.out]; rfl, hb0.trans (hb1.mono hb0.size)⟩
theorem wn_two : (wn 2 : Value) = wd 2 0 0 0 := by
  unfold wn
  rw [show M.pt 0 2 = 2 by decide +kernel, show M.pt 1 2 = 0 by decide +kernel, show M.pt 2 2 = 0 by decide +kernel, show M.pt 3 2 = 0 by decide +kernel]
set_option maxRecDepth 100000 in
set_option maxHeartbeats 4000000 in
theorem fault_2 : FaultC 2 83 := by
  intro n ts a cap N bs us p ab cb au cu w hts hV
  have hN := hV.hN
  have HO : Hid (∀ W, Calls Tryz.prog 85 #[.int .u64 2] W fun e w' => e = .returned (wn 2) ∧ Below W.heap.size W w') := fun W => wn_two ▸ of_any 2 W
  have HB : Hid (∀ W, Calls Tryz.prog 84 #[wn N, wn 2] W fun e w' => e = .returned (.bool (decide (N < 2))) ∧ Below W.heap.size W w') := fun W => less_any N 2 W hN (by unfold M.In; omega)
  have HE : Hid (M.ownF 2 n ts.length (.mk N bs us p) = M.fu (decide (N < 2))) := by show _ = _; simp [M.ownF]
  clear hV
  obtain ⟨w0, hw0⟩ : ∃ w0, (w.alloc (.cells #[.int .i64 2, .int .i64 n, .slice a ts.length cap] 32)).alloc (.cells #[.int .u64 (M.pt 0 N), .int .u64 (M.pt 1 N), .int .u64 (M.pt 2 N), .int .u64 (M.pt 3 N), .slice ab bs.length cb, .slice au us.length cu, .int .i64 p] 38) = w0 := ⟨_, rfl⟩
  have hb0 : Below w.heap.size w w0 := by rw [← hw0]; exact two_boxes _ _ _
  have hz : w0.heap.size = w.heap.size + 2 := by rw [← hw0]; simp
  have kn : w0.cell? ⟨w.heap.size, 1, none⟩ = some (.int .i64 n) := by rw [← hw0]; simp [go_sem]
  have k0 : w0.cell? ⟨w.heap.size + 1, 0, none⟩ = some (.int .u64 (M.pt 0 N)) := by rw [← hw0]; simp [go_sem]
  have k1 : w0.cell? ⟨w.heap.size + 1, 1, none⟩ = some (.int .u64 (M.pt 1 N)) := by rw [← hw0]; simp [go_sem]
  have k2 : w0.cell? ⟨w.heap.size + 1, 2, none⟩ = some (.int .u64 (M.pt 2 N)) := by rw [← hw0]; simp [go_sem]
  have k3 : w0.cell? ⟨w.heap.size + 1, 3, none⟩ = some (.int .u64 (M.pt 3 N)) := by rw [← hw0]; simp [go_sem]
  have HW := Lib.hid hw0
  clear hw0
  go_enter Tryz.func83, Tryz.ntmps83
  go_wp2_with fail
  rw [HW.out]
  have mixed : Tryz.prog.follows .mixedOrders = true := by kernel_rfl
  refine region_quiet (C := fun W => Below w0.heap.size w0 W) mixed (by kernel_rfl) (Below.drew (Below.refl _ _)) ?_
  refine quiet_val (.pointer (some ⟨w.heap.size + 1, 0, none⟩)) (by rfl) (fun W hC => by go_simp) ?_
  simp only [Act.put, List.setIfInBounds_toArray, List.set_cons_zero, List.set_cons_succ]
  refine quiet_val (wn N) (by rfl) (fun W hC => by have a0 := (hC.cell (p := ⟨w.heap.size + 1, 0, none⟩) (by simp; omega)).trans k0; have a1 := (hC.cell (p := ⟨w.heap.size + 1, 1, none⟩) (by simp; omega)).trans k1; have a2 := (hC.cell (p := ⟨w.heap.size + 1, 2, none⟩) (by simp; omega)).trans k2; have a3 := (hC.cell (p := ⟨w.heap.size + 1, 3, none⟩) (by simp; omega)).trans k3; go_simp) ?_
  simp only [Act.put, List.setIfInBounds_toArray, List.set_cons_zero, List.set_cons_succ]
  refine quiet_call (wn 2) 85 #[.int .u64 2] (by rfl) (fun W _ => by go_simp) (fun W hC => (HO.out W).mono fun _ _ h => ⟨h.1, hC.trans (h.2.mono hC.size)⟩) ?_
  simp only [Act.put, List.setIfInBounds_toArray, List.set_cons_zero, List.set_cons_succ]
  refine quiet_call (.bool (decide (N < 2))) 84 #[wn N, wn 2] (by rfl) (fun W _ => by go_simp) (fun W hC => (HB.out W).mono fun _ _ h => ⟨h.1, hC.trans (h.2.mono hC.size)⟩) ?_
  simp only [Act.put, List.setIfInBounds_toArray, List.set_cons_zero, List.set_cons_succ]
  refine quiet_call (.int .i64 (M.fu (decide (N < 2)) : Nat)) 78 #[.bool (decide (N < 2))] (by rfl) (fun W _ => by go_simp) (fun W hC => (unless_any _ W).mono fun _ _ h => ⟨h.1, by rw [h.2]; exact hC⟩) ?_
  simp only [Act.put, List.setIfInBounds_toArray, List.set_cons_zero, List.set_cons_succ]
  refine quiet_val (.int .i64 (M.fu (decide (N < 2)) : Nat)) (by rfl) (fun W hC => by go_simp) ?_
  simp only [Act.put, List.setIfInBounds_toArray, List.set_cons_zero, List.set_cons_succ]
  refine wpQuiet_nil ?_
  intro w1 hb1
  go_wp2_with fail
  go_ret
  exact ⟨by rw [HE.out]; rfl, hb0.trans (hb1.mono hb0.size)⟩
end Go.Proofs.YtaajkbclojmbeaaGreatDoor
namespace Go.Proofs.YtaajkbclojmbeaaGreatDoor
open Go Go.RowKit

/-- Is what is left empty? -/
def M.emptyR (k : Int) (N lb lu : Nat) (p : Int) : Bool :=
  (if k = 1 ∨ k = 2 then 0 else N) == 0 && (if k = 5 ∨ k = 6 then 0 else lb) == 0 && (if k = 3 ∨ k = 4 ∨ k = 7 ∨ k = 8 then 0 else lu) == 0 && (if k = 8 then 0 else p) == 0
theorem M.own_rest {k n : Int} {m N : Nat} {bs : List Bool} {us : List M.Va} {p : Int} (h1 : 1 ≤ k) (h8 : k ≤ 8) (X : Nat) :
    (if M.ownF k n m (.mk N bs us p) ≠ 0 then M.ownF k n m (.mk N bs us p) else if M.emptyR k N bs.length us.length p = false then 2 else X) =
      (if (k = 4 ∧ n < us.length) ∨ (k = 6 ∧ n < bs.length) then 5 else if M.ofV k n m (.mk N bs us p) = false then 2 else X) := by
  have hf : M.fu false = 2 := rfl
  have ht : M.fu true = 0 := rfl
  by_cases e1 : k = 1
  · subst e1
    simp [M.ownF, M.ofV, M.emptyR]
    by_cases c : ((M.tr (M.f32 N)).length : Int) ≤ n
    · simp only [c, decide_true, ht]
      by_cases a1 : bs = [] <;> by_cases a2 : us = [] <;> by_cases a3 : p = 0 <;> simp [a1, a2, a3]
      intro h; omega
    · simp only [c, decide_false, hf]
      simp
      intro _ _ _ h
      omega
  by_cases e2 : k = 2
  · subst e2
    simp [M.ownF, M.ofV, M.emptyR]
    by_cases c : N < 2
    · have c' : (N = 0 ∨ N = 1) := by omega
      simp [c, ht]
      by_cases a1 : bs = [] <;> by_cases a2 : us = [] <;> by_cases a3 : p = 0 <;> simp [a1, a2, a3]
      intros
      omega
    · have c1 : ¬ N = 0 := by omega
      have c2 : ¬ N = 1 := by omega
      simp [c, c1, c2, hf]
  by_cases e3 : k = 3
  · subst e3
    simp [M.ownF, M.ofV, M.emptyR]
    by_cases c : (us.length : Int) = n
    · simp [c, ht]
    · simp [c, hf]
  by_cases e4 : k = 4
  · subst e4
    simp [M.ownF, M.ofV, M.emptyR]
    by_cases c : n < (us.length : Int)
    · simp [c]
    · simp [c]
  by_cases e5 : k = 5
  · subst e5
    simp [M.ownF, M.ofV, M.emptyR]
    by_cases c : (bs.length : Int) = n
    · simp [c, ht]
    · simp [c, hf]
  by_cases e6 : k = 6
  · subst e6
    simp [M.ownF, M.ofV, M.emptyR]
    by_cases c : n < (bs.length : Int)
    · simp [c]
    · simp [c]
  by_cases e7 : k = 7
  · subst e7
    simp [M.ownF, M.ofV, M.emptyR]
    by_cases c : us.length = m
    · simp [c, ht]
    · have c' : ¬ (us.length : Int) = (m : Int) := by omega
      simp [c, c', hf]
  obtain rfl : k = 8 := by omega
  simp [M.ownF, M.ofV, M.emptyR]
  by_cases c : p < 0 ∨ (m : Int) ≤ p
  · simp only [if_pos c]
    have c' : ¬ (0 ≤ p ∧ p < m) := by omega
    rcases c with c | c
    · have d1 : ¬ 0 ≤ p := by omega
      simp [d1]
    · have d1 : ¬ p < (m : Int) := by omega
      simp [d1]
  · simp only [if_neg c]
    have d1 : 0 ≤ p := by omega
    have d2 : p < (m : Int) := by omega
    by_cases a1 : us.length = 1
    · have a1' : (us.length : Int) = 1 := by omega
      have d3 : ¬ (m : Int) ≤ p := by omega
      by_cases b1 : N = 0 <;> by_cases b2 : bs = ([] : List Bool) <;> simp [a1, ht, d1, d3, b1, b2]
    · have a1' : ¬ (us.length : Int) = 1 := by omega
      simp [a1, a1', hf, d1]
theorem M.fit_own {k n : Int} {ins : List M.Ty} {N : Nat} {bs : List Bool} {us : List M.Va} {p : Int} (h1 : 1 ≤ k) (h8 : k ≤ 8) :
    M.fitV (.mk k n ins) (.mk N bs us p) = if M.ownF k n ins.length (.mk N bs us p) ≠ 0 then M.ownF k n ins.length (.mk N bs us p) else if M.emptyR k N bs.length us.length p = false then 2 else M.fitVs k ins p 0 us := by
  rw [M.fitV_eq, M.own_rest h1 h8]
/-- What is as it must be itself is of its kind. -/
theorem M.own_of {k n : Int} {m N : Nat} {bs : List Bool} {us : List M.Va} {p : Int} (h1 : 1 ≤ k) (h8 : k ≤ 8) (ho : M.ownF k n m (.mk N bs us p) = 0) (he : M.emptyR k N bs.length us.length p = true) : M.ofV k n m (.mk N bs us p) = true := by
  have h := M.own_rest (n := n) (m := m) (N := N) (bs := bs) (us := us) (p := p) h1 h8 7
  rw [if_neg (by simp [ho]), if_neg (by simp [he])] at h
  cases hq : M.ofV k n m (.mk N bs us p) with
  | true => rfl
  | false =>
    rw [hq] at h
    split at h
    · cases h
    · simp at h
end Go.Proofs.YtaajkbclojmbeaaGreatDoor
namespace Go.Proofs.YtaajkbclojmbeaaGreatDoor
open Go Go.RowKit Go.Shelf

/-- The first of a row that is wrong. -/
def HeldF (us : List M.Va) (caps : Array Value) (f : Nat → M.Va → Nat) (w : World) : Prop :=
  ∀ (i N : Nat) (bs : List Bool) (vs : List M.Va) (p : Int) (ab : Option Addr) (cb : Nat) (av : Option Addr) (cv : Nat), us[i]? = some (.mk N bs vs p) → Vl w w.heap.size N bs vs ab cb av cv → ∀ W, Below w.heap.size w W →
    Calls Tryz.prog 109 (#[.int .i64 i, vv N (.slice ab bs.length cb) (.slice av vs.length cv) p] ++ caps) W fun e w' => e = .returned (.int .i64 (f i (.mk N bs vs p) : Nat)) ∧ Below W.heap.size W w'

set_option maxRecDepth 100000 in
set_option maxHeartbeats 8000000 in
theorem held_any (us : List M.Va) (au : Option Addr) (cu : Nat) (c0 c1 c2 c3 : Value) (k : Int) (ins : List M.Ty) (pick : Int) (w : World) (hV : LayV w w.heap.size us (.slice au us.length cu)) (hlong : us.length ≤ 6000)
    (H : HeldF us #[c0, c1, c2, c3] (fun i u => M.fitV (M.inT k ins pick i) u) w) :
    Calls Tryz.prog 108 #[.slice au us.length cu, .func (.func 109) #[] #[c0, c1, c2, c3]] w fun e w' => e = .returned (.int .i64 (M.fitVs k ins pick 0 us : Nat)) ∧ Below w.heap.size w w' := by
  have E1 : ∀ args w, (callFunc 109 args).run Tryz.prog w = .ok (.enter 109 args) w := enters_of Tryz.func109 (by kernel_rfl) rfl
  have HH := Lib.hid H
  obtain ⟨R, hR⟩ : ∃ R, R = M.fitVs k ins pick 0 us := ⟨_, rfl⟩
  rw [← hR]
  clear H
  go_enter Tryz.func108, Tryz.ntmps108
  go_wp2_with fail
  go_loopw [10] (fun i wr => ∃ j : Nat, j ≤ us.length ∧ i = .int .i64 j ∧ M.fitVs k ins pick 0 (us.take j) = 0 ∧ Below w.heap.size w wr) (fun i _ => us.length - (intOf i).toNat)
  case atStart => exact ⟨0, by omega, rfl, rfl, Below.refl _ _⟩
  case round =>
    obtain ⟨j, hj, rfl, hq, hW⟩ := hrel
    by_cases hlt : j < us.length
    · obtain ⟨b, o, N, bs, vs, p, ab, cb, av, cv, rfl, hbn, hxk, h7, hVl⟩ := hV.at_ hlt
      have h7r := h7.from_ hW hbn
      have e0 := h7r.c0
      have e1 := h7r.c1
      have e2 := h7r.c2
      have e3 := h7r.c3
      have e4 := h7r.c4
      have e5 := h7r.c5
      have e6 := h7r.c6
      have HC := Lib.hid (HH.out j N bs vs p ab cb av cv hxk hVl)
      dsimp only at HC
      have hbA : Below w.heap.size w (wr.alloc (.cells #[.int .u64 (M.pt 0 N), .int .u64 (M.pt 1 N), .int .u64 (M.pt 2 N), .int .u64 (M.pt 3 N), .slice ab bs.length cb, .slice av vs.length cv, .int .i64 p] 38)) := hW.alloc hW.size _
      have hj9 : j < 6000 := by omega
      have HN := Lib.hid (M.fitVs_next (k := k) (ins := ins) (pick := pick) hxk hq)
      have HF := Lib.hid (M.fitVs_first (k := k) (ins := ins) (pick := pick) hxk hq)
      clear hq hV h7 h7r hVl hlong
      generalize M.fitV (M.inT k ins pick j) (.mk N bs vs p) = q at *
      by_cases hz : q = 0
      · subst hz
        go_wp2_with fail
        refine (HC.out _ hbA).mono ?_
        rintro e w2 ⟨rfl, hb2⟩
        go_wp2_with fail
        go_roundw
        case rel => exact ⟨j + 1, by omega, by simp, HN.out, hbA.trans (hb2.mono hbA.size)⟩
        case measure => simp [intOf]; omega
      · have hz' : (((q : Nat) : Int) != 0) = true := by simp; omega
        have HR : Hid (R = q) := by show _ = _; rw [hR]; exact HF.out hz
        clear hz hR
        go_wp2_with fail
        refine (HC.out _ hbA).mono ?_
        rintro e w2 ⟨rfl, hb2⟩
        go_wp2_with fail
        go_ret
        exact ⟨by rw [HR.out]; rfl, hbA.trans (hb2.mono hbA.size)⟩
    · obtain rfl : j = us.length := by omega
      rw [List.take_length] at hq
      rw [hq] at hR
      have HR := Lib.hid hR
      clear hR hq
      go_wp2_with fail
      go_ret
      exact ⟨by rw [HR.out]; rfl, hW⟩

theorem fault_at (j : Nat) (hj : j < 8) : FaultC ((j + 1 : Nat) : Int) (faultG (j + 1)) ∧ (∀ args w, (callFunc (faultG (j + 1)) args).run Tryz.prog w = .ok (.enter (faultG (j + 1)) args) w) ∧
    RestC ((j + 1 : Nat) : Int) (restG (j + 1)) ∧ (∀ args w, (callFunc (restG (j + 1)) args).run Tryz.prog w = .ok (.enter (restG (j + 1)) args) w) := by
  match j, hj with
  | 0, _ => exact ⟨fault_1, enters_of Tryz.func77 (by kernel_rfl) rfl, rest_1, enters_of Tryz.func80 (by kernel_rfl) rfl⟩
  | 1, _ => exact ⟨fault_2, enters_of Tryz.func83 (by kernel_rfl) rfl, rest_2, enters_of Tryz.func80 (by kernel_rfl) rfl⟩
  | 2, _ => exact ⟨fault_3, enters_of Tryz.func88 (by kernel_rfl) rfl, rest_3, enters_of Tryz.func90 (by kernel_rfl) rfl⟩
  | 3, _ => exact ⟨fault_4, enters_of Tryz.func92 (by kernel_rfl) rfl, rest_4, enters_of Tryz.func90 (by kernel_rfl) rfl⟩
  | 4, _ => exact ⟨fault_5, enters_of Tryz.func95 (by kernel_rfl) rfl, rest_5, enters_of Tryz.func97 (by kernel_rfl) rfl⟩
  | 5, _ => exact ⟨fault_6, enters_of Tryz.func98 (by kernel_rfl) rfl, rest_6, enters_of Tryz.func97 (by kernel_rfl) rfl⟩
  | 6, _ => exact ⟨fault_7, enters_of Tryz.func101 (by kernel_rfl) rfl, rest_7, enters_of Tryz.func90 (by kernel_rfl) rfl⟩
  | 7, _ => exact ⟨fault_8, enters_of Tryz.func103 (by kernel_rfl) rfl, rest_8, enters_of Tryz.func104 (by kernel_rfl) rfl⟩
theorem of_at (j : Nat) (hj : j + 1 = 3 ∨ j + 1 = 4 ∨ j + 1 = 7 ∨ j + 1 = 8) : ∃ g, ofF (j + 1) = .func (.func g) #[] #[] ∧ OfC ((j + 1 : Nat) : Int) g ∧ ∀ args w, (callFunc g args).run Tryz.prog w = .ok (.enter g args) w := by
  rcases hj with h | h | h | h
  · obtain rfl : j = 2 := by omega
    exact ⟨_, rfl, of_3, enters_of Tryz.func91 (by kernel_rfl) rfl⟩
  · obtain rfl : j = 3 := by omega
    exact ⟨_, rfl, of_4, enters_of Tryz.func91 (by kernel_rfl) rfl⟩
  · obtain rfl : j = 6 := by omega
    exact ⟨_, rfl, of_7, enters_of Tryz.func102 (by kernel_rfl) rfl⟩
  · obtain rfl : j = 7 := by omega
    exact ⟨_, rfl, of_8, enters_of Tryz.func105 (by kernel_rfl) rfl⟩

/-- What fault must do, of values of a size. -/
def FaultK (b : Nat) (cs : List Nat) (z : Nat) : Prop := ∀ (k n : Int) (ts : List M.Ty) (a : Option Addr) (cap : Nat) (N : Nat) (bs : List Bool) (us : List M.Va) (p : Int) (ab : Option Addr) (cb : Nat) (au : Option Addr) (cu : Nat) (w : World), SizeOf.sizeOf us ≤ z → LayT w w.heap.size ts (.slice a ts.length cap) → Vl w w.heap.size N bs us ab cb au cu →
  (∃ e, M.chkT e (.mk k n ts) = 0) → Kinds w w.heap.size b cs → M.cntVs us ≤ 6000 →
  Calls Tryz.prog 44 #[.map (some b), tv k n (.slice a ts.length cap), vv N (.slice ab bs.length cb) (.slice au us.length cu) p] w fun e w' => e = .returned (.int .i64 (M.fitV (.mk k n ts) (.mk N bs us p) : Nat)) ∧ Below w.heap.size w w'

set_option maxRecDepth 100000 in
set_option maxHeartbeats 8000000 in
/-- The closure that goes on into an item. -/
theorem into_any (b : Nat) (cs : List Nat) (z : Nat) (ih : FaultK b cs z) (g : FuncId) (k n : Int) (ts : List M.Ty) (a : Option Addr) (cap : Nat) (hg : OfC k g) (hen : ∀ args w, (callFunc g args).run Tryz.prog w = .ok (.enter g args) w)
    (Sm Sk St Sv : Nat) (p : Int) (i N : Nat) (bs : List Bool) (us : List M.Va) (q : Int) (ab : Option Addr) (cb : Nat) (au : Option Addr) (cu : Nat) (w : World) (hs : SizeOf.sizeOf us ≤ z) (hT : LayT w w.heap.size ts (.slice a ts.length cap)) (hlen : ts.length ≤ 1000) (hV : Vl w w.heap.size N bs us ab cb au cu)
    (j : Nat) (k' m' : Int) (ts' : List M.Ty) (hj : j < ts.length) (hxj : ts[j]? = some (.mk k' m' ts')) (hi : (k = 7 ∧ i = j) ∨ (k ≠ 7 ∧ k = 8 ∧ p = j) ∨ (k ≠ 7 ∧ k ≠ 8 ∧ j = 0)) (hch : ∃ e, M.chkT e (.mk k' m' ts') = 0) (hK : Kinds w w.heap.size b cs) (hc : M.cntVs us ≤ 6000)
    (m0 : w.cell? ⟨Sm, 0, none⟩ = some (.map (some b))) (k4 : w.cell? ⟨Sk, 4, none⟩ = some (.func (.func g) #[] #[])) (hB : BoxT w St k n (.slice a ts.length cap)) (v6 : w.cell? ⟨Sv, 6, none⟩ = some (.int .i64 p))
    (l0 : Sm < w.heap.size) (l1 : Sk < w.heap.size) (l2 : St < w.heap.size) (l3 : Sv < w.heap.size) :
    Calls Tryz.prog 109 #[.int .i64 i, vv N (.slice ab bs.length cb) (.slice au us.length cu) q, .pointer (some ⟨Sm, 0, none⟩), .pointer (some ⟨Sk, 0, none⟩), .pointer (some ⟨St, 0, none⟩), .pointer (some ⟨Sv, 0, none⟩)] w
      fun e w' => e = .returned (.int .i64 (M.fitV (.mk k' m' ts') (.mk N bs us q) : Nat)) ∧ Below w.heap.size w w' := by
  obtain ⟨w0, hw0⟩ : ∃ w0, w.alloc (.cells #[.int .u64 (M.pt 0 N), .int .u64 (M.pt 1 N), .int .u64 (M.pt 2 N), .int .u64 (M.pt 3 N), .slice ab bs.length cb, .slice au us.length cu, .int .i64 q] 38) = w0 := ⟨_, rfl⟩
  have hb0 : Below w.heap.size w w0 := by rw [← hw0]; (repeat (first | exact Below.refl _ _ | refine Below.drew ?_ | refine Below.alloc ?_ (by first | omega | (simp; omega) | simp) _ | refine Below.setCell ?_ (by first | omega | (simp; omega) | simp) _))
  have hz0 : w0.heap.size = w.heap.size + 1 := by rw [← hw0]; simp
  have hv0 : Cells7 w0 w.heap.size 0 N (.slice ab bs.length cb) (.slice au us.length cu) q := by rw [← hw0]; exact Cells7.new _ _ _ _ _ _
  obtain ⟨R, hR⟩ : ∃ R, R = M.fitV (.mk k' m' ts') (.mk N bs us q) := ⟨_, rfl⟩
  rw [← hR]
  have HW := Lib.hid hw0
  clear hw0
  go_enter Tryz.func109, Tryz.ntmps109
  go_wp2_with fail
  rw [HW.out]
  have mixed : Tryz.prog.follows .mixedOrders = true := by kernel_rfl
  obtain ⟨b', o', k2, m2, ts2, at', ct', rfl, hbn, hx2, e0, e1, e2, hLt⟩ := hT.at_ hj
  rw [hxj] at hx2
  cases hx2
  have hbb := bcell hb0
  have M0 := (hbb.1 _ 0 l0).trans m0
  have K4 := (hbb.1 _ 4 l1).trans k4
  have T0 := (hbb.1 _ 0 l2).trans hB.c0
  have T1 := (hbb.1 _ 1 l2).trans hB.c1
  have T2 := (hbb.1 _ 2 l2).trans hB.c2
  have V6 := (hbb.1 _ 6 l3).trans v6
  have E0 := (hbb.1 _ _ hbn).trans e0
  have E1 := (hbb.1 _ _ hbn).trans e1
  have E2 := (hbb.1 _ _ hbn).trans e2
  have a0 := hv0.c0
  have a1 := hv0.c1
  have a2 := hv0.c2
  have a3 := hv0.c3
  have a4 := hv0.c4
  have a5 := hv0.c5
  have a6 := hv0.c6
  simp only [Nat.zero_add] at a1 a2 a3 a4 a5 a6
  have HO : Hid (∀ W, Below w0.heap.size w0 W → Calls Tryz.prog g #[tv k n (.slice (some ⟨b', o', none⟩) ts.length cap), .int .i64 p, .int .i64 i] W fun e w' => e = .returned (tv k' m' (.slice at' ts'.length ct')) ∧ Below W.heap.size W w') := fun W hC =>
    hg n ts.length cap b' o' p i j k' m' at' ts'.length ct' W hj (by have := hC.size; omega) hlen hi ((hC.cell (p := ⟨b', o' + j * 3, none⟩) (by simp; omega)).trans E0) ((hC.cell (p := ⟨b', o' + j * 3 + 1, none⟩) (by simp; omega)).trans E1) ((hC.cell (p := ⟨b', o' + j * 3 + 2, none⟩) (by simp; omega)).trans E2)
  have HI : Hid (∀ W, Below w0.heap.size w0 W → Calls Tryz.prog 44 #[.map (some b), tv k' m' (.slice at' ts'.length ct'), vv N (.slice ab bs.length cb) (.slice au us.length cu) q] W fun e w' => e = .returned (.int .i64 (R : Nat)) ∧ Below W.heap.size W w') := fun W hC => by
    have hw : Below w.heap.size w W := hb0.trans (hC.mono hb0.size)
    rw [hR]
    exact ih k' m' ts' at' ct' N bs us q ab cb au cu W hs ((hLt.from_ hw).mono hw.size) ((hV.from_ hw).mono hw.size) hch ((hK.from_ hw).mono hw.size) hc
  refine region_quiet (C := fun W => Below w0.heap.size w0 W) mixed (by kernel_rfl) (Below.drew (Below.refl _ _)) ?_
  refine quiet_val (.map (some b)) (by rfl) (fun W hC => by have x := (hC.cell (p := ⟨Sm, 0, none⟩) (by simp; omega)).trans M0; go_simp) ?_
  simp only [Act.put, List.setIfInBounds_toArray, List.set_cons_zero, List.set_cons_succ]
  refine quiet_val (.pointer (some ⟨Sk, 4, none⟩)) (by rfl) (fun W hC => by go_simp) ?_
  simp only [Act.put, List.setIfInBounds_toArray, List.set_cons_zero, List.set_cons_succ]
  refine quiet_val (.func (.func g) #[] #[]) (by rfl) (fun W hC => by have x := (hC.cell (p := ⟨Sk, 4, none⟩) (by simp; omega)).trans K4; go_simp) ?_
  simp only [Act.put, List.setIfInBounds_toArray, List.set_cons_zero, List.set_cons_succ]
  refine quiet_val (tv k n (.slice (some ⟨b', o', none⟩) ts.length cap)) (by rfl) (fun W hC => by have x0 := (hC.cell (p := ⟨St, 0, none⟩) (by simp; omega)).trans T0; have x1 := (hC.cell (p := ⟨St, 1, none⟩) (by simp; omega)).trans T1; have x2 := (hC.cell (p := ⟨St, 2, none⟩) (by simp; omega)).trans T2; go_simp) ?_
  simp only [Act.put, List.setIfInBounds_toArray, List.set_cons_zero, List.set_cons_succ]
  refine quiet_val (.pointer (some ⟨Sv, 6, none⟩)) (by rfl) (fun W hC => by go_simp) ?_
  simp only [Act.put, List.setIfInBounds_toArray, List.set_cons_zero, List.set_cons_succ]
  refine quiet_val (.int .i64 p) (by rfl) (fun W hC => by have x := (hC.cell (p := ⟨Sv, 6, none⟩) (by simp; omega)).trans V6; go_simp) ?_
  simp only [Act.put, List.setIfInBounds_toArray, List.set_cons_zero, List.set_cons_succ]
  refine quiet_val (.int .i64 i) (by rfl) (fun W hC => by go_simp) ?_
  simp only [Act.put, List.setIfInBounds_toArray, List.set_cons_zero, List.set_cons_succ]
  refine quiet_call (tv k' m' (.slice at' ts'.length ct')) g #[tv k n (.slice (some ⟨b', o', none⟩) ts.length cap), .int .i64 p, .int .i64 i] (by rfl) (fun W _ => by have hen' := hen; go_simp) (fun W hC => (HO.out W hC).mono fun _ _ h => ⟨h.1, hC.trans (h.2.mono hC.size)⟩) ?_
  simp only [Act.put, List.setIfInBounds_toArray, List.set_cons_zero, List.set_cons_succ]
  refine quiet_val (vv N (.slice ab bs.length cb) (.slice au us.length cu) q) (by rfl) (fun W hC => by have x0 := (hC.cell (p := ⟨w.heap.size, 0, none⟩) (by simp; omega)).trans a0; have x1 := (hC.cell (p := ⟨w.heap.size, 1, none⟩) (by simp; omega)).trans a1; have x2 := (hC.cell (p := ⟨w.heap.size, 2, none⟩) (by simp; omega)).trans a2; have x3 := (hC.cell (p := ⟨w.heap.size, 3, none⟩) (by simp; omega)).trans a3; have x4 := (hC.cell (p := ⟨w.heap.size, 4, none⟩) (by simp; omega)).trans a4; have x5 := (hC.cell (p := ⟨w.heap.size, 5, none⟩) (by simp; omega)).trans a5; have x6 := (hC.cell (p := ⟨w.heap.size, 6, none⟩) (by simp; omega)).trans a6; go_simp) ?_
  simp only [Act.put, List.setIfInBounds_toArray, List.set_cons_zero, List.set_cons_succ]
  refine quiet_call (.int .i64 (R : Nat)) 44 #[.map (some b), tv k' m' (.slice at' ts'.length ct'), vv N (.slice ab bs.length cb) (.slice au us.length cu) q] (by rfl) (fun W _ => by go_simp) (fun W hC => (HI.out W hC).mono fun _ _ h => ⟨h.1, hC.trans (h.2.mono hC.size)⟩) ?_
  simp only [Act.put, List.setIfInBounds_toArray, List.set_cons_zero, List.set_cons_succ]
  refine quiet_val (.int .i64 (R : Nat)) (by rfl) (fun W hC => by go_simp) ?_
  simp only [Act.put, List.setIfInBounds_toArray, List.set_cons_zero, List.set_cons_succ]
  refine wpQuiet_nil ?_
  intro w1 hb1
  go_wp2_with fail
  go_ret
  exact ⟨rfl, hb0.trans (hb1.mono hb0.size)⟩
end Go.Proofs.YtaajkbclojmbeaaGreatDoor
namespace Go.Proofs.YtaajkbclojmbeaaGreatDoor
open Go Go.RowKit Go.Shelf

/-- A function value, or none, is stored. -/
def IsG (V : Value) : Prop := V = .nilFunc ∨ ∃ F xa xb, V = .func F xa xb
theorem store_g {V : Value} (hV : IsG V) (W : World) (p : Addr) (h1 : (W.cell? p).isSome = true) (h2 : W.frozen? p = false) : (store p V).run Tryz.prog W = .ok () (W.setCell p V) := by
  rw [run_store _ _ _ _ _ (by rcases hV with rfl | ⟨F, xa, xb, rfl⟩ <;> rfl)]
  obtain ⟨v, hv⟩ := Option.isSome_iff_exists.1 h1
  rw [hv]
  simp [h2]
theorem isG_size (j : Nat) : IsG (sizeV j) := by unfold sizeV; split <;> first | exact .inr ⟨_, _, _, rfl⟩ | exact .inl rfl
theorem isG_of (j : Nat) : IsG (ofF j) := by unfold ofF; split <;> first | exact .inr ⟨_, _, _, rfl⟩ | exact .inl rfl

set_option maxRecDepth 100000 in
set_option maxHeartbeats 8000000 in
theorem kfault_n (b : Nat) (cs : List Nat) (z : Nat) : FaultK b cs z := by
  induction z with
  | zero => intro k n ts a cap N bs us p ab cb au cu w h; cases us <;> simp at h
  | succ z ih =>
    intro k n ts a cap N bs us p ab cb au cu w hs hT hV hch hK hc
    have hk : 1 ≤ k ∧ k ≤ 8 := by obtain ⟨e, he⟩ := hch; exact (M.chkT_ok.1 he).1
    have htl : ts.length ≤ 1000 := by
      obtain ⟨e, he⟩ := hch
      have h1 := (M.chkT_ok.1 he).2.1
      unfold M.formT at h1
      split at h1
      · simp at h1; simp [h1.1]
      · split at h1
        · simp at h1; simp [h1.1]
        · split at h1
          · simp at h1; omega
          · split at h1
            · simp at h1; simp [h1.1]
            · split at h1
              · simp at h1; omega
              · simp at h1; omega
    have hul : us.length ≤ 6000 := Nat.le_trans (M.length_cntV us) hc
    have hlongs := hV.longs
    obtain ⟨j, c, hkj, hj, hH, hlk⟩ := hK.at_ k hk.1 hk.2
    obtain ⟨hf, hfe, hr, hre⟩ := fault_at j hj
    rw [← hkj] at hf hr
    obtain ⟨w0, hw0⟩ : ∃ w0, ((w.alloc (.cells #[.map (some b)] 68)).alloc (.cells #[.int .i64 k, .int .i64 n, .slice a ts.length cap] 32)).alloc (.cells #[.int .u64 (M.pt 0 N), .int .u64 (M.pt 1 N), .int .u64 (M.pt 2 N), .int .u64 (M.pt 3 N), .slice ab bs.length cb, .slice au us.length cu, .int .i64 p] 38) = w0 := ⟨_, rfl⟩
    have hb0 : Below w.heap.size w w0 := by rw [← hw0]; (repeat (first | exact Below.refl _ _ | refine Below.drew ?_ | refine Below.alloc ?_ (by first | omega | (simp; omega) | simp) _ | refine Below.setCell ?_ (by first | omega | (simp; omega) | simp) _))
    have hz0 : w0.heap.size = w.heap.size + 3 := by rw [← hw0]; simp
    have hm0 : w0.cell? ⟨w.heap.size, 0, none⟩ = some (.map (some b)) := by rw [← hw0]; simp [go_sem]
    have hB0 : BoxT w0 (w.heap.size + 1) k n (.slice a ts.length cap) := by
      rw [← hw0]
      exact ⟨by simp [go_sem], by simp [go_sem], by simp [go_sem]⟩
    have hv0 : Cells7 w0 (w.heap.size + 1 + 1) 0 N (.slice ab bs.length cb) (.slice au us.length cu) p := by
      rw [← hw0]
      exact ⟨by simp [go_sem], by simp [go_sem], by simp [go_sem], by simp [go_sem], by simp [go_sem], by simp [go_sem], by simp [go_sem]⟩
    have hlk0 := hlk false w0 hb0
    simp only [ent] at hlk0
    rw [← hw0] at hlk0
    have HK := Lib.hid hkj
    have HW := Lib.hid hw0
    have t0 := hB0.c0
    clear hw0 hkj hlk
    have s0 := fun W p => store_g (V := hasV c) (.inr ⟨_, _, _, rfl⟩) W p
    have s1 := fun W p => store_g (isG_size (j + 1)) W p
    have s2 := fun W p => store_g (V := .func (.func (faultG (j + 1))) #[] #[]) (.inr ⟨_, _, _, rfl⟩) W p
    have s3 := fun W p => store_g (V := .func (.func (restG (j + 1))) #[] #[]) (.inr ⟨_, _, _, rfl⟩) W p
    have s4 := fun W p => store_g (isG_of (j + 1)) W p
    obtain ⟨R, hR⟩ : ∃ R, R = M.fitV (.mk k n ts) (.mk N bs us p) := ⟨_, rfl⟩
    rw [← hR]
    rw [M.fit_own hk.1 hk.2] at hR
    have HRR := Lib.hid hR
    clear hR
    go_enter Tryz.func44, Tryz.ntmps44
    go_wp2_with fail
    rw [HW.out]
    obtain ⟨w1, hw1⟩ : ∃ w1, w0.alloc (.cells #[hasV c, sizeV (j + 1), .func (.func (faultG (j + 1))) #[] #[], .func (.func (restG (j + 1))) #[] #[], ofF (j + 1)] 96) = w1 := ⟨_, rfl⟩
    rw [hw1]
    have hb1 : Below w0.heap.size w0 w1 := by rw [← hw1]; exact (Below.refl _ _).alloc (Nat.le_refl _) _
    have hz1 : w1.heap.size = w.heap.size + 4 := by rw [← hw1]; simp; omega
    have hbw1 : Below w.heap.size w w1 := hb0.trans (hb1.mono hb0.size)
    have hk3 : w1.cell? ⟨w.heap.size + 1 + 1 + 1, 3, none⟩ = some (.func (.func (restG (j + 1))) #[] #[]) := by rw [← hw1, show w.heap.size + 1 + 1 + 1 = w0.heap.size by omega]; simp [go_sem]
    have hk4 : w1.cell? ⟨w.heap.size + 1 + 1 + 1, 4, none⟩ = some (ofF (j + 1)) := by rw [← hw1, show w.heap.size + 1 + 1 + 1 = w0.heap.size by omega]; simp [go_sem]
    have hm1 : w1.cell? ⟨w.heap.size, 0, none⟩ = some (.map (some b)) := (hb1.cell (p := ⟨w.heap.size, 0, none⟩) (by simp; omega)).trans hm0
    have hB1 := hB0.from_ hb1 (by omega)
    have hv1 := hv0.from_ hb1 (by omega)
    clear hw1 hm0 hB0 hv0 s0 s1 s2 s3 s4 hlk0 HW t0
    have HF := Lib.hid (hf n ts a cap N bs us p ab cb au cu w1 htl ((hV.from_ hbw1).mono hbw1.size))
    refine HF.out.mono ?_
    rintro e w2 ⟨rfl, hb2⟩
    have hbw2 := hbw1.trans (hb2.mono hbw1.size)
    generalize ho : M.ownF k n ts.length (.mk N bs us p) = q at *
    by_cases hq : q = 0
    · subst hq
      have hR := HRR.out
      rw [if_neg (by simp)] at hR
      have HRS := Lib.hid hR
      clear hR HRR
      have HO := Lib.hid ho
      clear ho
      have hv2 := hv1.from_ hb2 (by omega)
      have v0 := hv2.c0
      have v1 := hv2.c1
      have v2 := hv2.c2
      have v3 := hv2.c3
      have v4 := hv2.c4
      have v5 := hv2.c5
      have v6 := hv2.c6
      simp only [Nat.zero_add] at v1 v2 v3 v4 v5 v6
      have hk3' := (hb2.cell (p := ⟨w.heap.size + 1 + 1 + 1, 3, none⟩) (by simp; omega)).trans hk3
      have HR := Lib.hid (hr N bs.length us.length p ab cb au cu w2 hV.hN hlongs.1 hlongs.2)
      go_wp2_with fail
      refine HR.out.mono ?_
      rintro e w3 ⟨N', lb', lu', p', ab', cb', au', cu', rfl, ⟨e1, e2, e3, e4⟩, hb3⟩
      have hem : M.emptyR k N bs.length us.length p = (N' == 0 && lb' == 0 && lu' == 0 && p' == 0) := by unfold M.emptyR; rw [← e1, ← e2, ← e3, ← e4]
      have hN' : M.In N' := by
        rw [e1]
        split
        · unfold M.In; omega
        · exact hV.hN
      have hl1 : lb' ≤ 9223372036854775807 := by rw [e2]; split <;> omega
      have hl2 : lu' ≤ 9223372036854775807 := by rw [e3]; split <;> omega
      have HE := Lib.hid (empty_any N' hN' lb' lu' hl1 hl2 ab' cb' au' cu' p' w3)
      have hbw3 := hbw2.trans (hb3.mono hbw2.size)
      have hb13 : Below w1.heap.size w1 w3 := hb2.trans (hb3.mono hb2.size)
      rw [hem] at HRS
      have HEM := Lib.hid hem
      clear e1 e2 e3 e4 hl1 hl2 hN' hem v0 v1 v2 v3 v4 v5 v6 hk3' hv2 HR
      go_wp2_with fail
      refine HE.out.mono ?_
      rintro e w4 ⟨rfl, hb4⟩
      have hbw4 := hbw3.trans (hb4.mono hbw3.size)
      have hb14 := hb13.trans (hb4.mono hb13.size)
      generalize (N' == 0 && lb' == 0 && lu' == 0 && p' == 0) = q2 at *
      cases q2 with
      | false =>
        clear HE
        go_wp2_with fail
        go_ret
        exact ⟨by rw [HRS.out]; rfl, hbw4⟩
      | true =>
        have hmf : ∀ (fn : Fn) (first cap : Array Value) (w : World), (Instr.makeFunc fn first cap).run Tryz.prog w = .ok (.func fn first cap) w := fun _ _ _ _ => rfl
        have v5 := (hv1.from_ hb14 (by omega)).c5
        simp only [Nat.zero_add] at v5
        have HH : Hid (Calls Tryz.prog 108 #[.slice au us.length cu, .func (.func 109) #[] #[.pointer (some ⟨w.heap.size, 0, none⟩), .pointer (some ⟨w.heap.size + 1 + 1 + 1, 0, none⟩), .pointer (some ⟨w.heap.size + 1, 0, none⟩), .pointer (some ⟨w.heap.size + 1 + 1, 0, none⟩)]] w4 fun e w' => e = .returned (.int .i64 (M.fitVs k ts p 0 us : Nat)) ∧ Below w4.heap.size w4 w') := by
          refine held_any us au cu _ _ _ _ k ts p w4 ((hV.v.from_ hbw4).mono hbw4.size) (by omega) ?_
          intro i N2 bs2 vs p2 ab2 cb2 av cv hxi hVi W hbW
          have hi := (List.getElem?_eq_some_iff.1 hxi).1
          obtain ⟨d, hd⟩ := hch
          obtain ⟨j2, k', m', ts', hj2, hx2, hin, hrel⟩ := M.in_at (M.own_of hk.1 hk.2 HO.out HEM.out) hd hi
          have hj4 : j + 1 = 3 ∨ j + 1 = 4 ∨ j + 1 = 7 ∨ j + 1 = 8 := by
            have h1 := HEM.out
            have h2 := HK.out
            unfold M.emptyR at h1
            simp at h1
            have h3 := h1.1.2
            by_cases h : k = 3 ∨ k = 4 ∨ k = 7 ∨ k = 8
            · omega
            · simp only [not_or] at h
              have h4 := h3 h.1 h.2.1 h.2.2.1 h.2.2.2
              rw [h4] at hi
              simp at hi
          obtain ⟨g, hgv, hgc, hge⟩ := of_at j hj4
          rw [← HK.out] at hgc
          have hsx := size_va hxi
          rw [M.Va.mk.sizeOf_spec] at hsx
          have hcx := M.cntV_part (List.mem_of_getElem? hxi)
          rw [M.cntV] at hcx
          have hb1W := hb14.trans (hbW.mono hb14.size)
          have hbwW := hbw4.trans (hbW.mono hbw4.size)
          have hzW := hb1W.size
          dsimp only
          rw [hin]
          refine into_any b cs z ih g k n ts a cap hgc hge w.heap.size (w.heap.size + 1 + 1 + 1) (w.heap.size + 1) (w.heap.size + 1 + 1) p i N2 bs2 vs p2 ab2 cb2 av cv W (by omega) ((hT.from_ hbwW).mono hbwW.size) htl ((hVi.from_ hbW).mono hbW.size) j2 k' m' ts' hj2 hx2 hrel
            ⟨d + 1, M.chkTs_ok.1 (M.chkT_ok.1 hd).2.2.2 _ (List.mem_of_getElem? hx2)⟩ ((hK.from_ hbwW).mono hbwW.size) (by omega) ((hb1W.cell (p := ⟨w.heap.size, 0, none⟩) (by simp; omega)).trans hm1) ?_ (hB1.from_ hb1W (by omega)) ?_ (by omega) (by omega) (by omega) (by omega)
          · rw [← hgv]
            exact (hb1W.cell (p := ⟨w.heap.size + 1 + 1 + 1, 4, none⟩) (by simp; omega)).trans hk4
          · have := (hv1.from_ hb1W (by omega)).c6
            simpa only [Nat.zero_add] using this
        clear HE
        go_wp2_with fail
        refine HH.out.mono ?_
        rintro e w5 ⟨rfl, hb5⟩
        go_wp2_with fail
        go_ret
        exact ⟨by rw [HRS.out]; rfl, hbw4.trans (hb5.mono hbw4.size)⟩
    · have hR := HRR.out
      rw [if_pos hq] at hR
      have HRS := Lib.hid hR
      clear hR HRR
      have hq' : (((q : Nat) : Int) != 0) = true := by simp; omega
      clear ho hq
      go_wp2_with fail
      go_ret
      exact ⟨by rw [HRS.out]; rfl, hbw2⟩
end Go.Proofs.YtaajkbclojmbeaaGreatDoor
