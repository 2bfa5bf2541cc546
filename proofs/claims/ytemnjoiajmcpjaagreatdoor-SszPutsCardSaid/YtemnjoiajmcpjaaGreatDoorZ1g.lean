/- The reference's offset and Low. -/
import Derived.Test.YtemnjoiajmcpjaaGreatDoorK10
import Derived.Test.YtemnjoiajmcpjaaGreatDoorK01
namespace Go.Proofs.YtemnjoiajmcpjaaGreatDoor
open Go Go.RowKit

theorem M.le_f32 {N : Nat} (h : N < 4294967296) : (M.tr (M.f32 N)).length ≤ 4 := (M.tr_width (k := 4) (by unfold M.In; omega)).2 (by omega)
set_option maxHeartbeats 1000000 in
theorem zoffset_any (N : Nat) (w : World) (h : N < 4294967296) :
    Calls Tryz.prog 51 #[.int .i64 N] w fun e w' => e = .returned (.string ⟨(M.le 4 N).toArray⟩) ∧ Below w.heap.size w w' := by
  have HL := Lib.hid (fun W => rle_ok N 4 W (by omega) (by omega) (by omega) (M.le_f32 h))
  have hw : IntKind.u64.wrap (N : Int) = N := by
    simp only [IntKind.wrap, IntKind.bits, IntKind.signed]
    simp
    omega
  go_enter Tryz.func51, Tryz.ntmps51
  go_wp2_with fail
  refine (HL.out _).mono ?_
  rintro e w1 ⟨rfl, hb1⟩
  go_wp2_with fail
  go_ret
  exact ⟨rfl, hb1⟩
theorem be_at (k : Nat) : ∀ (N j : Nat), j < k → (M.be k N)[k - 1 - j]? = some (UInt8.ofNat (N / 256 ^ j % 256)) := by
  induction k with
  | zero => intro N j h; omega
  | succ k ih =>
    intro N j h
    rw [M.be]
    cases j with
    | zero => simp [M.be_length]
    | succ j =>
      rw [List.getElem?_append_left (by rw [M.be_length]; omega), show k + 1 - 1 - (j + 1) = k - 1 - j by omega, ih (N / 256) j (by omega), Nat.div_div_eq_div_mul, Nat.pow_succ, Nat.mul_comm]
theorem f32_at (N j : Nat) (hj : j < 32) : ((M.f32 N)[31 - j]'(by rw [M.f32_length]; omega)).toNat = N / 256 ^ j % 256 := by
  have h : (M.f32 N)[31 - j]? = some (UInt8.ofNat (N / 256 ^ j % 256)) := be_at 32 N j hj
  rw [List.getElem?_eq_getElem (by rw [M.f32_length]; omega)] at h
  rw [Option.some.inj h]
  simp
set_option maxRecDepth 100000 in
set_option maxHeartbeats 2000000 in
theorem zlow_any (N n : Nat) (w : World) (hn1 : 1 ≤ n) (hn : n ≤ 32) :
    Calls Tryz.prog 46 #[wn N, .int .i64 n] w fun e w' => e = .returned (.string ⟨(M.le n N).toArray⟩) ∧ Below w.heap.size w w' := by
  obtain ⟨i0, hi, hz0, hz1, hz2⟩ := info_parts Tryz.infoU8
  obtain ⟨l, hl⟩ : ∃ l, M.f32 N = l := ⟨_, rfl⟩
  have h32 : l.length = 32 := by rw [← hl]; exact M.f32_length N
  have hat : Hid (∀ j (hj : j < 32), (l[31 - j]'(by omega)).toNat = N / 256 ^ j % 256) := by
    show ∀ j (hj : j < 32), (l[31 - j]'(by omega)).toNat = N / 256 ^ j % 256
    subst hl
    exact fun j hj => f32_at N j hj
  have HF := Lib.hid (fun W => rfixed_any N W)
  rw [hl] at HF
  clear hl
  go_enter Tryz.func46, Tryz.ntmps46
  go_wp2_with fail
  refine (HF.out _).mono ?_
  rintro e w1 ⟨rfl, hb1⟩
  have hbw : Below w.heap.size w w1 := ((Below.refl _ _).alloc (Nat.le_refl _) _).trans (Below.mono hb1 (by simp))
  go_wp2_with fail
  go_loopw [6, 7] (fun v i wr => ∃ j : Nat, j ≤ n ∧ i = .int .i64 j ∧ wr.ownsRow w1.heap.size 5 1 v j ((lo8 N j).map (Value.int .u8)) ∧ Below w1.heap.size w1 wr)
    (fun _ i _ => n - (intOf i).toNat)
  case atStart => exact ⟨0, by omega, rfl, World.ownsRow_nil _ _ _ _, Below.refl _ _⟩
  case round =>
    obtain ⟨j, hj, rfl, hown, LW⟩ := hrel
    by_cases hlt : j < n
    · have hsz := LW.size
      have hp : (0 : Int) ≤ 31 - (j : Int) := by omega
      have hp2 : (31 : Int) - (j : Int) < 32 := by omega
      have hz : (((⟨l.toArray⟩ : ByteArray)[31 - j]'(by simp [ByteArray.size]; omega)).toNat : Int) = ((N / 256 ^ j % 256 : Nat) : Int) := by
        rw [← hat.out j (by omega)]
        rfl
      generalize hzz : ((N / 256 ^ j % 256 : Nat) : Int) = z at hz
      have HZ := Lib.hid hzz
      clear hzz
      go_wp2_with (at_builtin; refine wpList_append_own _ rfl _ _ 46 rfl w1.heap.size 5 i0 (.int .u8 0) 1 1 Tryz.underlying46 hi hz0 hz1 hz2 rfl (by decide) _ _ _ rfl (hown.alloc _) ⟨wr.heap.size, 0, none⟩ 1 1 [.int .u8 z] rfl rfl (cell_one_new _ _ _) (by simp [Value.oneCell']) (by unfold maxLen; omega) (by omega) (by simp; omega) ?_; intro v' w2 hown' hgrow _)
      have hown2 : w2.ownsRow w1.heap.size 5 1 v' (j + 1) ((lo8 N (j + 1)).map (Value.int .u8)) := by
        rw [lo8_succ, HZ.out, List.map_append]
        exact hown'
      have hbel : Below w1.heap.size wr w2 := ((Below.refl _ wr).alloc (by omega) _).grown hgrow (by simp; omega) (fun q e => (hown.lt q e).1)
      clear hown hown' hgrow
      go_wp2_with fail
      exact ⟨⟨j + 1, by omega, by simp, hown2, LW.trans hbel⟩, by simp [intOf]; omega⟩
    · obtain rfl : j = n := by omega
      obtain ⟨g, cap, rfl, hcells⟩ := row_cells hown (by omega)
      have hr := run_convert_bytes_arg wr 46 5 Tryz.underlying46 Tryz.underlying5 g 0 j cap (lo8 N j) (lo8_length N j) (fun i hi => by rw [Nat.zero_add]; exact hcells i (by rw [lo8_length]; exact hi)) 9 Tryz.underlying9
      clear hown hcells
      have e : strOfNums (lo8 N j) = ⟨(M.le j N).toArray⟩ := by unfold strOfNums; rw [lo8_bytes]
      rw [e] at hr
      clear e
      go_wp2_with fail
      go_ret
      exact ⟨rfl, hbw.trans (LW.mono hbw.size)⟩
end Go.Proofs.YtemnjoiajmcpjaaGreatDoor
