/- keccak.takeIn. -/
import Derived.Test.YtdfcfpbofomdcaaDoorQ2
import Derived.StillTailTactics
namespace Go.Proofs.YtdfcfpbofomdcaaDoor
open Go Go.RowKit

theorem absB_set {a : List Nat} (ha : a.length = 25) {i : Nat} (hi : i < 136) (c : Nat) : a.set (i / 8) (M.gl a (i / 8) ^^^ c * 2 ^ (8 * (i % 8))) = M.absB a i c := by
  refine M.lanes_ext (by rw [List.length_set]; exact ha) (M.of_length _) fun j hj => ?_
  rw [gl_set j (by omega)]
  unfold M.absB
  rw [M.gl_of _ hj]
  by_cases h : j = i / 8
  · subst h; simp
  · rw [if_neg h, if_neg h]
theorem abs_step {a : List Nat} {b : List UInt8} {m : Nat} (hm : m < 136) (hb : m < b.length) : (M.absP a b m).set (m / 8) (M.gl (M.absP a b m) (m / 8) ^^^ (b.getD m 0).toNat * 2 ^ (8 * (m % 8))) = M.absP a b (m + 1) := by
  rw [absB_set (a := M.absP a b m) (M.of_length _) hm, M.absP_succ a b m hm hb]
theorem shl_byte (c d : Nat) (hc : c < 256) (hd : d < 8) : IntKind.u64.wrap ((c : Int) * 2 ^ (8 * d)) = ((c * 2 ^ (8 * d) : Nat) : Int) ∧ c * 2 ^ (8 * d) < 18446744073709551616 := by
  have h : c * 2 ^ (8 * d) < 18446744073709551616 := by
    have h1 : 2 ^ (8 * d) ≤ 2 ^ 56 := Nat.pow_le_pow_right (by omega) (by omega)
    have h2 : c * 2 ^ (8 * d) ≤ 255 * 2 ^ 56 := Nat.mul_le_mul (by omega) h1
    omega
  refine ⟨?_, h⟩
  rw [show (c : Int) * 2 ^ (8 * d) = ((c * 2 ^ (8 * d) : Nat) : Int) by simp, IntKind.wrap_u64]
  omega

/-- From a place on a block has these bytes. -/
def Bs (W : World) (g off : Nat) (b : List UInt8) : Prop := ∀ j, j < b.length → W.cell? ⟨g, off + j, none⟩ = some (.int .u8 (((b.getD j 0).toNat : Nat) : Int))
theorem Bs.below {W W' : World} {g off B : Nat} {b : List UInt8} (h : Bs W g off b) (hb : Below B W W') (hg : g < B) : Bs W' g off b := fun j hj => (hb.cell (p := ⟨g, off + j, none⟩) hg).trans (h j hj)
theorem Bs.part {W : World} {g : Nat} {t : List UInt8} (h : Bs W g 0 t) (off n : Nat) : Bs W g off ((t.drop off).take n) := fun j hj => by
  have hl : j < n ∧ off + j < t.length := by simp at hj; omega
  have := h (off + j) hl.2
  rw [Nat.zero_add] at this
  rw [this]
  simp [List.getD_eq_getElem?_getD, hl.1]

set_option maxRecDepth 100000 in
set_option maxHeartbeats 2000000 in
theorem ktake (a : List Nat) (b : List UInt8) (g off cap : Nat) (w : World) (ha : M.Lanes a) (hg : Bs w g off b) (hglt : g < w.heap.size) (hl : b.length = 136) :
    Calls Tryd.prog 23 #[st a, .slice (some ⟨g, off, none⟩) 136 cap] w fun e w' => e = .returned (st (M.absL a b)) ∧ Below w.heap.size w w' := by
  have HA := Lib.hid ha
  have HL := Lib.hid ha.1
  have HBL := Lib.hid hl
  have HG := Lib.hid hg
  clear ha hl hg
  have mixed : Tryd.prog.follows .mixedOrders = true := by kernel_rfl
  go_enter Tryd.func23, Tryd.ntmps23
  go_wp2_with fail
  go_loopw [9] (fun i wr => ∃ k : Nat, k ≤ 136 ∧ i = .int .i64 (k : Int) ∧ Rw wr w.heap.size 23 (M.absP a b k) ∧ Rw wr (w.heap.size + 1) 23 z25 ∧ Below w.heap.size w wr)
    (fun i _ => 136 - (intOf i).toNat)
  case atStart =>
    rw [lv_zero]
    refine ⟨0, by omega, rfl, ?_, Rw.at_ _ _ _ (by simp), ?_⟩
    · rw [M.absP_zero HL.out]; exact (Rw.new _ _ _).alloc _
    · (repeat (first | exact Below.refl _ _ | refine Below.drew ?_ | refine Below.alloc ?_ (by first | omega | (simp; omega) | simp) _ | refine Below.setCell ?_ (by first | omega | (simp; omega) | simp) _))
  case round =>
    obtain ⟨k, hk, rfl, hA, hR, hW⟩ := hrel
    by_cases hlt : k < 136
    · have hk5 : (k : Int) < 136 := by omega
      have cg := HG.out.below hW hglt k (by rw [HBL.out]; exact hlt)
      obtain ⟨c, hc⟩ : ∃ c, c = (b.getD k 0).toNat := ⟨_, rfl⟩
      have hc5 : c < 256 := by rw [hc]; exact UInt8.toNat_lt _
      have HC : Hid ((b.getD k 0).toNat = c) := hc.symm
      rw [← hc] at cg
      clear hc
      obtain ⟨q, hq⟩ : ∃ q, q = k / 8 := ⟨_, rfl⟩
      obtain ⟨d, hd⟩ : ∃ d, d = k % 8 := ⟨_, rfl⟩
      obtain ⟨s, hs⟩ : ∃ s, s = 8 * d := ⟨_, rfl⟩
      have t1 : ((k : Int)).tdiv 8 = (q : Int) := by rw [Int.tdiv_eq_ediv_of_nonneg (by omega)]; omega
      have t2 : ((k : Int)).tmod 8 = (d : Int) := by rw [Int.tmod_eq_emod_of_nonneg (by omega)]; omega
      have t3 : IntKind.i64.wrap (8 * (d : Int)) = (s : Int) := by rw [IntWalk.i64_in _ (by omega)]; omega
      have t0 : IntKind.i64.wrap (q : Int) = (q : Int) := IntWalk.i64_in _ (by omega)
      have tc : IntKind.u64.wrap (c : Int) = (c : Int) := by rw [IntKind.wrap_u64]; omega
      have hq5 : (q : Int) < 25 := by omega
      have hs5 : (s : Int) < 64 := by omega
      have hs0 : (0 : Int) ≤ (s : Int) := by omega
      have hLP := M.absP_lanes HA.out b k
      have ca := hA.cell (i := q) (by rw [hLP.1]; omega)
      have fa := hA.frozen q
      obtain ⟨u1, u2⟩ := shl_byte c d hc5 (by omega)
      have x1 := bits_xor_u64_nat _ _ (hLP.2 q) u2
      have HS := Lib.hid (abs_step (a := a) (b := b) hlt (by rw [HBL.out]; exact hlt))
      rw [HC.out, ← hd, ← hq] at HS
      rw [← hs] at u1 x1 HS
      clear hq hd hs u2 hLP hc5
      obtain ⟨v, hv⟩ : ∃ v, v = c * 2 ^ s := ⟨_, rfl⟩
      rw [← hv] at u1 x1 HS
      clear hv
      go_wp2_with fail
      go_still_tail 12, mixed
      change wpList _ _ _ _ _ wr.drew
      go_wp2_with fail
      go_roundw
      case rel =>
        refine ⟨k + 1, by omega, by go_num, ?_, ?_, ?_⟩
        · rw [← HS.out]; exact (hA.set_ _ _).drew
        · exact (hR.far (by simp) _).drew
        · exact (hW.setCell (by simp) _).drew
      case measure => simp [intOf]; omega
    · obtain rfl : k = 136 := by omega
      rw [M.absP_all] at hA
      clear hglt
      go_wp2_with (first | (refine wpList_load_st rfl _ _ rfl _ rfl _ _ 25 22 hA Tryd.array25 Tryd.size25 (M.of_length _) ?_) | (refine wpList_store_st rfl _ _ _ rfl _ _ rfl rfl _ _ 25 hR Tryd.size25 (M.of_length _) z25_length ?_))
      exact bodyPost_ret (v := st (M.absL a b)) (res_row rfl _ _ _ _ _ rfl (hR.row _) (M.of_length _)) rfl ⟨rfl, below_setRow hW (by omega) _⟩
end Go.Proofs.YtdfcfpbofomdcaaDoor
