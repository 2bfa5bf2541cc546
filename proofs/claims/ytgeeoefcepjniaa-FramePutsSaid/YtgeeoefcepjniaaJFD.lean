/- The reference of layer 14: high, Bytes, One, Put. -/
import Derived.Test.YtgeeoefcepjniaaJF5
import Derived.Test.YtgeeoefcepjniaaF0
import Derived.OrdersHeld
import Derived.Deep.RegionHeld
namespace Go.Proofs.Ytgeeoefcepjniaa
open Go Go.RowKit

theorem shr_byte2 {N d : Nat} (b : UInt8) (hb : b = UInt8.ofNat (N / 256 ^ d % 256)) : ((N : Int) / 2 ^ (8 * d)).tmod 256 % 256 = ((b.toNat : Nat) : Int) := by
  have h := shr_byte b hb
  have e : (N : Int) / (2 ^ (8 * d)) = ((N / 256 ^ d : Nat) : Int) := by
    rw [pow_cast]
    rfl
  rw [e] at h ⊢
  rw [Int.tmod_eq_emod_of_nonneg (Int.natCast_nonneg _)]
  omega

set_option maxRecDepth 100000 in
set_option maxHeartbeats 8000000 in
theorem rhigh_any (N q : Nat) (w : World) (_hN : N < 4294967296) (hq : q ≤ 4) (hq1 : 1 ≤ q) :
    Calls Try.prog 26 #[.int .i64 (N : Nat), .int .i64 (q : Nat)] w fun e w' => e = .returned (.string ⟨(M.be q N).toArray⟩) ∧ Below w.heap.size w w' := by
  have hw1 : wrap64 ((q : Int) - 1) = (q : Int) - 1 := by unfold wrap64; omega
  go_enter Try.func26, Try.ntmps26
  go_wp2_with fail
  go_loopw [5, 6] (fun v i wr => ∃ j : Nat, j ≤ q ∧ i = .int .i64 ((q : Int) - 1 - (j : Int)) ∧ Ow w.heap.size (M.be j (N / 256 ^ (q - j))) v wr ∧ Below w.heap.size w wr) (fun _ i _ => (intOf i + 1).toNat)
  case atStart => exact ⟨0, by omega, by simp, by simpa [M.be] using Ow.nil _ _, Below.refl _ _⟩
  case round =>
    obtain ⟨j, hj, rfl, ho, hW⟩ := hrel
    by_cases hlt : j < q
    · have hstep := M.be_step (N := N) hlt
      obtain ⟨d, hd⟩ : ∃ d, d = q - 1 - j := ⟨_, rfl⟩
      rw [show q - (j + 1) = d by omega] at hstep
      obtain ⟨c, hcc⟩ : ∃ c, c = UInt8.ofNat (N / 256 ^ d % 256) := ⟨_, rfl⟩
      have hby := shr_byte2 c hcc
      rw [← hcc] at hstep
      have hi : (q : Int) - 1 - (j : Int) = (d : Int) := by omega
      have hd4 : d ≤ 3 := by omega
      have hz := hW.size
      have hnew : M.be (j + 1) (N / 256 ^ (q - (j + 1))) = M.be j (N / 256 ^ (q - j)) ++ [c] := by
        rw [show q - (j + 1) = d by omega, hstep]
      have hll : (M.be j (N / 256 ^ (q - j))).length ≤ 4 := by rw [M.be_length]; omega
      have hnx : (d : Int) - 1 = (q : Int) - 1 - ((j + 1 : Nat) : Int) := by omega
      have HNX := Lib.hid hnx
      have HN := Lib.hid hnew
      have HL := Lib.hid hll
      have HLT := Lib.hid hlt
      rw [hi]
      generalize M.be j (N / 256 ^ (q - j)) = l at *
      clear hd hcc hstep hnew hll hi hnx hlt hj
      have hdw : wrap64 ((d : Int) - 1) = (d : Int) - 1 := by unfold wrap64; omega
      go_wp2_with (at_builtin; refine wpList_append_ow _ rfl _ _ rfl w.heap.size l [c] u5 _ rfl rfl (ho.from_ ((Below.refl _ _).alloc (Nat.le_refl _) _)) (Ow.lit wr c).sr (by have := HL.out; simp; omega) (by simp; omega) ?_; intro v5 w5 ho5 hb5 hg5)
      go_roundw
      case rel => exact ⟨j + 1, HLT.out, by rw [HNX.out], by rw [HN.out]; exact ho5, (hW.alloc hz _).trans hb5⟩
      case measure => simp [intOf] <;> omega
    · obtain rfl : j = q := by omega
      have hneg : ¬ (0 : Int) ≤ (j : Int) - 1 - (j : Int) := by omega
      have hcv := ho.convA (by rw [Nat.sub_self, Nat.pow_zero, Nat.div_one]; intro h; have := congrArg List.length h; simp [M.be_length] at this; omega)
      rw [Nat.sub_self, Nat.pow_zero, Nat.div_one] at hcv
      go_wp2_with (rw [hcv])
      go_ret
      exact ⟨rfl, hW⟩
/-- The reference's bytes. -/
def M.bytR (i : List UInt8) (N : Nat) (d : List UInt8) (l : UInt8) : List UInt8 := i ++ (M.be 2 N ++ (M.be 4 d.length ++ (d ++ [l])))
set_option maxRecDepth 100000 in
set_option maxHeartbeats 16000000 in
theorem rbytes14_any (i d : List UInt8) (N : Nat) (l : Bool) (w : World) (hN : N < 4294967296) (hi : i.length ≤ 100) (hd : d.length ≤ 4096) :
    Calls Try.prog 20 #[.agg #[.string ⟨i.toArray⟩, .int .i64 (N : Nat), .string ⟨d.toArray⟩, .bool l]] w fun e w' => e = .returned (.string ⟨(M.bytR i N d (M.lstB l)).toArray⟩) ∧ Below w.heap.size w w' := by
  have mixed : Try.prog.follows .mixedOrders = true := by kernel_rfl
  obtain ⟨w0, hw0⟩ : ∃ w0, w.alloc (.cells #[.string ⟨i.toArray⟩, .int .i64 (N : Nat), .string ⟨d.toArray⟩, .bool l] 24) = w0 := ⟨_, rfl⟩
  have hb0 : Below w.heap.size w w0 := by rw [← hw0]; exact (Below.refl _ _).alloc (Nat.le_refl _) _
  have hX0 : FrBox w0 w.heap.size ⟨i, N, d, l⟩ := by rw [← hw0]; exact FrBox.new w ⟨i, N, d, l⟩ _
  have hlt : w.heap.size < w0.heap.size := by rw [← hw0]; simp
  have HW := Lib.hid hw0
  have HB := Lib.hid hb0
  have HX := Lib.hid (fun W (h : Below w0.heap.size w0 W) => hX0.from_ h hlt)
  have H2 := Lib.hid (fun W => rhigh_any N 2 W hN (by omega) (by omega))
  have H4 := Lib.hid (fun W => rhigh_any d.length 4 W (by omega) (by omega) (by omega))
  unfold M.bytR
  have l2 := M.be_length 2 N
  have l4 := M.be_length 4 d.length
  generalize M.be 2 N = r2 at *
  generalize M.be 4 d.length = r4 at *
  clear hw0 hb0 hX0 hlt hN
  cases l
  · skip
    have HCV : Hid (∀ (g : Nat) (Y : World), Y.cell? ⟨g, 0, none⟩ = some (.int .u8 0) → (convert 45 9 (.slice (some ⟨g, 0, none⟩) 1 1)).run Try.prog Y = .ok (.string ⟨#[0]⟩) Y) := fun g Y h =>
      run_convert_bytes_back Y 45 9 5 ⟨g, 0, none⟩ 1 [0] Try.underlying45 Try.underlying5 Try.underlying9 (fun j hj => by
        obtain rfl : j = 0 := by simpa using hj
        simpa [Addr.add] using h)
    go_enter Try.func20, Try.ntmps20
    obtain ⟨c0, c1, c2, c3⟩ := HX.out _ (Below.refl _ _)
    go_wp2_with (rw [HW.out])
    clear c0 c1 c2 c3
    refine wp_region_held (S := fun Y => Below w0.heap.size w0 Y) mixed ?_
    have hS0 : Below w0.heap.size w0 w0.drew := (Below.refl _ _).drew
    rw [show Array.replicate (Array.size _) false = #[false, false, false, false, false, false, false, false, false, false, false, false, false, false, false, false, false, false, false] from rfl, show Array.size (α := Oper) _ = 19 from rfl]
    refine wpAnyH_take (i := 0) (v := .pointer (some ⟨w.heap.size, 0, none⟩)) rfl (by kernel_rfl) (by kernel_rfl) (by kernel_rfl) (fun _ _ _ h => h) (Or.inl ⟨by rfl, ?_⟩) hS0 ?_
    · intro Y hY
      skip
      go_simp
    simp only [Act.put, List.getElem_toArray, List.getElem_cons_zero, List.setIfInBounds_toArray, List.set_cons_zero, List.set_cons_succ]
    refine wpAnyH_take (i := 1) (v := .string ⟨i.toArray⟩) rfl (by kernel_rfl) (by kernel_rfl) (by kernel_rfl) (fun _ _ _ h => h) (Or.inl ⟨by rfl, ?_⟩) hS0 ?_
    · intro Y hY
      obtain ⟨c0, c1, c2, c3⟩ := HX.out _ hY
      go_simp
    simp only [Act.put, List.getElem_toArray, List.getElem_cons_succ, List.getElem_cons_zero, List.setIfInBounds_toArray, List.set_cons_zero, List.set_cons_succ]
    refine wpAnyH_take (i := 2) (v := .pointer (some ⟨w.heap.size, 1, none⟩)) rfl (by kernel_rfl) (by kernel_rfl) (by kernel_rfl) (fun _ _ _ h => h) (Or.inl ⟨by rfl, ?_⟩) hS0 ?_
    · intro Y hY
      skip
      go_simp
    simp only [Act.put, List.getElem_toArray, List.getElem_cons_succ, List.getElem_cons_zero, List.setIfInBounds_toArray, List.set_cons_zero, List.set_cons_succ]
    refine wpAnyH_take (i := 3) (v := .int .i64 (N : Nat)) rfl (by kernel_rfl) (by kernel_rfl) (by kernel_rfl) (fun _ _ _ h => h) (Or.inl ⟨by rfl, ?_⟩) hS0 ?_
    · intro Y hY
      obtain ⟨c0, c1, c2, c3⟩ := HX.out _ hY
      go_simp
    simp only [Act.put, List.getElem_toArray, List.getElem_cons_succ, List.getElem_cons_zero, List.setIfInBounds_toArray, List.set_cons_zero, List.set_cons_succ]
    refine wpAnyH_take (i := 6) (v := .pointer (some ⟨w.heap.size, 2, none⟩)) rfl (by kernel_rfl) (by kernel_rfl) (by kernel_rfl) (fun _ _ _ h => h) (Or.inl ⟨by rfl, ?_⟩) hS0 ?_
    · intro Y hY
      skip
      go_simp
    simp only [Act.put, List.getElem_toArray, List.getElem_cons_succ, List.getElem_cons_zero, List.setIfInBounds_toArray, List.set_cons_zero, List.set_cons_succ]
    refine wpAnyH_take (i := 7) (v := .string ⟨d.toArray⟩) rfl (by kernel_rfl) (by kernel_rfl) (by kernel_rfl) (fun _ _ _ h => h) (Or.inl ⟨by rfl, ?_⟩) hS0 ?_
    · intro Y hY
      obtain ⟨c0, c1, c2, c3⟩ := HX.out _ hY
      go_simp
    simp only [Act.put, List.getElem_toArray, List.getElem_cons_succ, List.getElem_cons_zero, List.setIfInBounds_toArray, List.set_cons_zero, List.set_cons_succ]
    refine wpAnyH_take (i := 8) (v := .int .i64 (d.length : Nat)) rfl (by kernel_rfl) (by kernel_rfl) (by kernel_rfl) (fun _ _ _ h => h) (Or.inl ⟨by rfl, ?_⟩) hS0 ?_
    · intro Y hY
      skip
      go_simp
    simp only [Act.put, List.getElem_toArray, List.getElem_cons_succ, List.getElem_cons_zero, List.setIfInBounds_toArray, List.set_cons_zero, List.set_cons_succ]
    refine wpAnyH_take (i := 11) (v := .pointer (some ⟨w.heap.size, 2, none⟩)) rfl (by kernel_rfl) (by kernel_rfl) (by kernel_rfl) (fun _ _ _ h => h) (Or.inl ⟨by rfl, ?_⟩) hS0 ?_
    · intro Y hY
      skip
      go_simp
    simp only [Act.put, List.getElem_toArray, List.getElem_cons_succ, List.getElem_cons_zero, List.setIfInBounds_toArray, List.set_cons_zero, List.set_cons_succ]
    refine wpAnyH_take (i := 12) (v := .string ⟨d.toArray⟩) rfl (by kernel_rfl) (by kernel_rfl) (by kernel_rfl) (fun _ _ _ h => h) (Or.inl ⟨by rfl, ?_⟩) hS0 ?_
    · intro Y hY
      obtain ⟨c0, c1, c2, c3⟩ := HX.out _ hY
      go_simp
    simp only [Act.put, List.getElem_toArray, List.getElem_cons_succ, List.getElem_cons_zero, List.setIfInBounds_toArray, List.set_cons_zero, List.set_cons_succ]
    refine wpAnyH_take (i := 14) (v := .int .u8 0) rfl (by kernel_rfl) (by kernel_rfl) (by kernel_rfl) (fun _ _ _ h => h) (Or.inl ⟨by rfl, ?_⟩) hS0 ?_
    · intro Y hY
      skip
      go_simp
    simp only [Act.put, List.getElem_toArray, List.getElem_cons_succ, List.getElem_cons_zero, List.setIfInBounds_toArray, List.set_cons_zero, List.set_cons_succ]
    refine wpAnyH_ready (rs := [4, 15]) (by kernel_rfl) (by simp) ?_
    refine AllReadyH.cons rfl (fun K hK => ?a1) (AllReadyH.cons rfl (fun K hK => ?b1) AllReadyH.nil)
    case' a1 =>
      go_simp
      refine (H2.out _).mono ?_
      rintro e wc2 ⟨rfl, hb2⟩
      have hS_2 : Below w0.heap.size w0 wc2 := hS0.trans (Below.mono hb2 hS0.size)
      try go_wp2_with fail
      refine hK.out _ _ hS_2 (fun _ => ?_)
      clear hK K
      simp only [List.setIfInBounds_toArray, List.set_cons_zero, List.set_cons_succ]
      refine wpAnyH_take (i := 5) (v := .string ⟨(i ++ r2).toArray⟩) rfl (by kernel_rfl) (by kernel_rfl) (by kernel_rfl) (fun _ _ _ h => h) (Or.inl ⟨by rfl, ?_⟩) hS_2 ?_
      · intro Y hY
        skip
        go_simp
        try rw [if_neg (by omega)]
        try rw [cat_eq]
        try simp only [List.append_assoc]
      simp only [Act.put, List.getElem_toArray, List.getElem_cons_succ, List.getElem_cons_zero, List.setIfInBounds_toArray, List.set_cons_zero, List.set_cons_succ]
      refine wpAnyH_ready (rs := [9, 15]) (by kernel_rfl) (by simp) ?_
      refine AllReadyH.cons rfl (fun K hK => ?a3) (AllReadyH.cons rfl (fun K hK => ?b3) AllReadyH.nil)
      case' a3 =>
        go_simp
        refine (H4.out _).mono ?_
        rintro e wc4 ⟨rfl, hb4⟩
        have hS_4 : Below w0.heap.size w0 wc4 := hS_2.trans (Below.mono hb4 hS_2.size)
        try go_wp2_with fail
        refine hK.out _ _ hS_4 (fun _ => ?_)
        clear hK K
        simp only [List.setIfInBounds_toArray, List.set_cons_zero, List.set_cons_succ]
        refine wpAnyH_take (i := 10) (v := .string ⟨(i ++ (r2 ++ r4)).toArray⟩) rfl (by kernel_rfl) (by kernel_rfl) (by kernel_rfl) (fun _ _ _ h => h) (Or.inl ⟨by rfl, ?_⟩) hS_4 ?_
        · intro Y hY
          skip
          go_simp
          try rw [if_neg (by omega)]
          try rw [cat_eq]
          try simp only [List.append_assoc]
        simp only [Act.put, List.getElem_toArray, List.getElem_cons_succ, List.getElem_cons_zero, List.setIfInBounds_toArray, List.set_cons_zero, List.set_cons_succ]
        refine wpAnyH_take (i := 13) (v := .string ⟨(i ++ (r2 ++ (r4 ++ d))).toArray⟩) rfl (by kernel_rfl) (by kernel_rfl) (by kernel_rfl) (fun _ _ _ h => h) (Or.inl ⟨by rfl, ?_⟩) hS_4 ?_
        · intro Y hY
          skip
          go_simp
          try rw [if_neg (by omega)]
          try rw [cat_eq]
          try simp only [List.append_assoc]
        simp only [Act.put, List.getElem_toArray, List.getElem_cons_succ, List.getElem_cons_zero, List.setIfInBounds_toArray, List.set_cons_zero, List.set_cons_succ]
        refine wpAnyH_ready (rs := [15]) (by kernel_rfl) (by simp) ?_
        refine AllReadyH.cons rfl (fun K hK => ?_) AllReadyH.nil
        go_simp
        obtain ⟨wx6, hw6⟩ : ∃ wx6, (wc4.alloc (.cells #[.int .u8 0] 5)) = wx6 := ⟨_, rfl⟩
        have hS_6 : Below w0.heap.size w0 wx6 := by rw [← hw6]; exact Below.alloc hS_4 hS_4.size _
        have hc6 : wx6.cell? ⟨wc4.heap.size, 0, none⟩ = some (.int .u8 0) := by rw [← hw6]; simp [go_sem]
        have hl6 : wc4.heap.size < wx6.heap.size := by rw [← hw6]; simp
        rw [hw6]
        refine hK.out _ _ hS_6 (fun _ => ?_)
        clear hK K hw6
        simp only [List.setIfInBounds_toArray, List.set_cons_zero, List.set_cons_succ]
        refine wpAnyH_ready (rs := [16]) (by kernel_rfl) (by simp) ?_
        refine AllReadyH.cons rfl (fun K hK => ?_) AllReadyH.nil
        have hcv8 := HCV.out (wc4.heap.size) wx6 hc6
        go_simp
        refine hK.out _ _ hS_6 (fun _ => ?_)
        clear hK K hcv8
        simp only [List.setIfInBounds_toArray, List.set_cons_zero, List.set_cons_succ]
        refine wpAnyH_take (i := 17) (v := .string ⟨(i ++ (r2 ++ (r4 ++ (d ++ [0])))).toArray⟩) rfl (by kernel_rfl) (by kernel_rfl) (by kernel_rfl) (fun _ _ _ h => h) (Or.inl ⟨by rfl, ?_⟩) hS_6 ?_
        · intro Y hY
          skip
          go_simp
          try rw [if_neg (by omega)]
          try rw [cat_eq]
          try simp only [List.append_assoc]
        simp only [Act.put, List.getElem_toArray, List.getElem_cons_succ, List.getElem_cons_zero, List.setIfInBounds_toArray, List.set_cons_zero, List.set_cons_succ]
        refine wpAnyH_take (i := 18) (v := .string ⟨(i ++ (r2 ++ (r4 ++ (d ++ [0])))).toArray⟩) rfl (by kernel_rfl) (by kernel_rfl) (by kernel_rfl) (fun _ _ _ h => h) (Or.inl ⟨by rfl, ?_⟩) hS_6 ?_
        · intro Y hY
          skip
          go_simp
        simp only [Act.put, List.getElem_toArray, List.getElem_cons_succ, List.getElem_cons_zero, List.setIfInBounds_toArray, List.set_cons_zero, List.set_cons_succ]
        refine wpAnyH_done (by kernel_rfl) ?_ _
        go_wp2_with fail
        go_ret
        exact ⟨rfl, HB.out.trans (hS_6.mono HB.out.size)⟩
      case' b3 =>
        go_simp
        obtain ⟨wx9, hw9⟩ : ∃ wx9, (wc2.alloc (.cells #[.int .u8 0] 5)) = wx9 := ⟨_, rfl⟩
        have hS_9 : Below w0.heap.size w0 wx9 := by rw [← hw9]; exact Below.alloc hS_2 hS_2.size _
        have hc9 : wx9.cell? ⟨wc2.heap.size, 0, none⟩ = some (.int .u8 0) := by rw [← hw9]; simp [go_sem]
        have hl9 : wc2.heap.size < wx9.heap.size := by rw [← hw9]; simp
        rw [hw9]
        refine hK.out _ _ hS_9 (fun _ => ?_)
        clear hK K hw9
        simp only [List.setIfInBounds_toArray, List.set_cons_zero, List.set_cons_succ]
        refine wpAnyH_ready (rs := [9, 16]) (by kernel_rfl) (by simp) ?_
        refine AllReadyH.cons rfl (fun K hK => ?a10) (AllReadyH.cons rfl (fun K hK => ?b10) AllReadyH.nil)
        case' a10 =>
          go_simp
          refine (H4.out _).mono ?_
          rintro e wc11 ⟨rfl, hb11⟩
          have hS_11 : Below w0.heap.size w0 wc11 := hS_9.trans (Below.mono hb11 hS_9.size)
          have hc11 := (hb11.cell (p := ⟨wc2.heap.size, 0, none⟩) hl9).trans hc9
          have hl11 := Nat.lt_of_lt_of_le hl9 hb11.size
          try go_wp2_with fail
          refine hK.out _ _ hS_11 (fun _ => ?_)
          clear hK K
          simp only [List.setIfInBounds_toArray, List.set_cons_zero, List.set_cons_succ]
          refine wpAnyH_take (i := 10) (v := .string ⟨(i ++ (r2 ++ r4)).toArray⟩) rfl (by kernel_rfl) (by kernel_rfl) (by kernel_rfl) (fun _ _ _ h => h) (Or.inl ⟨by rfl, ?_⟩) hS_11 ?_
          · intro Y hY
            skip
            go_simp
            try rw [if_neg (by omega)]
            try rw [cat_eq]
            try simp only [List.append_assoc]
          simp only [Act.put, List.getElem_toArray, List.getElem_cons_succ, List.getElem_cons_zero, List.setIfInBounds_toArray, List.set_cons_zero, List.set_cons_succ]
          refine wpAnyH_take (i := 13) (v := .string ⟨(i ++ (r2 ++ (r4 ++ d))).toArray⟩) rfl (by kernel_rfl) (by kernel_rfl) (by kernel_rfl) (fun _ _ _ h => h) (Or.inl ⟨by rfl, ?_⟩) hS_11 ?_
          · intro Y hY
            skip
            go_simp
            try rw [if_neg (by omega)]
            try rw [cat_eq]
            try simp only [List.append_assoc]
          simp only [Act.put, List.getElem_toArray, List.getElem_cons_succ, List.getElem_cons_zero, List.setIfInBounds_toArray, List.set_cons_zero, List.set_cons_succ]
          refine wpAnyH_ready (rs := [16]) (by kernel_rfl) (by simp) ?_
          refine AllReadyH.cons rfl (fun K hK => ?_) AllReadyH.nil
          have hcv13 := HCV.out (wc2.heap.size) wc11 hc11
          go_simp
          refine hK.out _ _ hS_11 (fun _ => ?_)
          clear hK K hcv13
          simp only [List.setIfInBounds_toArray, List.set_cons_zero, List.set_cons_succ]
          refine wpAnyH_take (i := 17) (v := .string ⟨(i ++ (r2 ++ (r4 ++ (d ++ [0])))).toArray⟩) rfl (by kernel_rfl) (by kernel_rfl) (by kernel_rfl) (fun _ _ _ h => h) (Or.inl ⟨by rfl, ?_⟩) hS_11 ?_
          · intro Y hY
            skip
            go_simp
            try rw [if_neg (by omega)]
            try rw [cat_eq]
            try simp only [List.append_assoc]
          simp only [Act.put, List.getElem_toArray, List.getElem_cons_succ, List.getElem_cons_zero, List.setIfInBounds_toArray, List.set_cons_zero, List.set_cons_succ]
          refine wpAnyH_take (i := 18) (v := .string ⟨(i ++ (r2 ++ (r4 ++ (d ++ [0])))).toArray⟩) rfl (by kernel_rfl) (by kernel_rfl) (by kernel_rfl) (fun _ _ _ h => h) (Or.inl ⟨by rfl, ?_⟩) hS_11 ?_
          · intro Y hY
            skip
            go_simp
          simp only [Act.put, List.getElem_toArray, List.getElem_cons_succ, List.getElem_cons_zero, List.setIfInBounds_toArray, List.set_cons_zero, List.set_cons_succ]
          refine wpAnyH_done (by kernel_rfl) ?_ _
          go_wp2_with fail
          go_ret
          exact ⟨rfl, HB.out.trans (hS_11.mono HB.out.size)⟩
        case' b10 =>
          have hcv14 := HCV.out (wc2.heap.size) wx9 hc9
          go_simp
          refine hK.out _ _ hS_9 (fun _ => ?_)
          clear hK K hcv14
          simp only [List.setIfInBounds_toArray, List.set_cons_zero, List.set_cons_succ]
          refine wpAnyH_ready (rs := [9]) (by kernel_rfl) (by simp) ?_
          refine AllReadyH.cons rfl (fun K hK => ?_) AllReadyH.nil
          go_simp
          refine (H4.out _).mono ?_
          rintro e wc16 ⟨rfl, hb16⟩
          have hS_16 : Below w0.heap.size w0 wc16 := hS_9.trans (Below.mono hb16 hS_9.size)
          have hc16 := (hb16.cell (p := ⟨wc2.heap.size, 0, none⟩) hl9).trans hc9
          have hl16 := Nat.lt_of_lt_of_le hl9 hb16.size
          try go_wp2_with fail
          refine hK.out _ _ hS_16 (fun _ => ?_)
          clear hK K
          simp only [List.setIfInBounds_toArray, List.set_cons_zero, List.set_cons_succ]
          refine wpAnyH_take (i := 10) (v := .string ⟨(i ++ (r2 ++ r4)).toArray⟩) rfl (by kernel_rfl) (by kernel_rfl) (by kernel_rfl) (fun _ _ _ h => h) (Or.inl ⟨by rfl, ?_⟩) hS_16 ?_
          · intro Y hY
            skip
            go_simp
            try rw [if_neg (by omega)]
            try rw [cat_eq]
            try simp only [List.append_assoc]
          simp only [Act.put, List.getElem_toArray, List.getElem_cons_succ, List.getElem_cons_zero, List.setIfInBounds_toArray, List.set_cons_zero, List.set_cons_succ]
          refine wpAnyH_take (i := 13) (v := .string ⟨(i ++ (r2 ++ (r4 ++ d))).toArray⟩) rfl (by kernel_rfl) (by kernel_rfl) (by kernel_rfl) (fun _ _ _ h => h) (Or.inl ⟨by rfl, ?_⟩) hS_16 ?_
          · intro Y hY
            skip
            go_simp
            try rw [if_neg (by omega)]
            try rw [cat_eq]
            try simp only [List.append_assoc]
          simp only [Act.put, List.getElem_toArray, List.getElem_cons_succ, List.getElem_cons_zero, List.setIfInBounds_toArray, List.set_cons_zero, List.set_cons_succ]
          refine wpAnyH_take (i := 17) (v := .string ⟨(i ++ (r2 ++ (r4 ++ (d ++ [0])))).toArray⟩) rfl (by kernel_rfl) (by kernel_rfl) (by kernel_rfl) (fun _ _ _ h => h) (Or.inl ⟨by rfl, ?_⟩) hS_16 ?_
          · intro Y hY
            skip
            go_simp
            try rw [if_neg (by omega)]
            try rw [cat_eq]
            try simp only [List.append_assoc]
          simp only [Act.put, List.getElem_toArray, List.getElem_cons_succ, List.getElem_cons_zero, List.setIfInBounds_toArray, List.set_cons_zero, List.set_cons_succ]
          refine wpAnyH_take (i := 18) (v := .string ⟨(i ++ (r2 ++ (r4 ++ (d ++ [0])))).toArray⟩) rfl (by kernel_rfl) (by kernel_rfl) (by kernel_rfl) (fun _ _ _ h => h) (Or.inl ⟨by rfl, ?_⟩) hS_16 ?_
          · intro Y hY
            skip
            go_simp
          simp only [Act.put, List.getElem_toArray, List.getElem_cons_succ, List.getElem_cons_zero, List.setIfInBounds_toArray, List.set_cons_zero, List.set_cons_succ]
          refine wpAnyH_done (by kernel_rfl) ?_ _
          go_wp2_with fail
          go_ret
          exact ⟨rfl, HB.out.trans (hS_16.mono HB.out.size)⟩
    case' b1 =>
      go_simp
      obtain ⟨wx17, hw17⟩ : ∃ wx17, ((w0.alloc (.cells #[.int .u8 0] 5)).drew) = wx17 := ⟨_, rfl⟩
      have hS_17 : Below w0.heap.size w0 wx17 := by rw [← hw17]; exact (Below.alloc (Below.refl _ _) (Nat.le_refl _) _).drew
      have hc17 : wx17.cell? ⟨w0.heap.size, 0, none⟩ = some (.int .u8 0) := by rw [← hw17]; simp [go_sem]
      have hl17 : w0.heap.size < wx17.heap.size := by rw [← hw17]; simp
      rw [hw17]
      refine hK.out _ _ hS_17 (fun _ => ?_)
      clear hK K hw17
      simp only [List.setIfInBounds_toArray, List.set_cons_zero, List.set_cons_succ]
      refine wpAnyH_ready (rs := [4, 16]) (by kernel_rfl) (by simp) ?_
      refine AllReadyH.cons rfl (fun K hK => ?a18) (AllReadyH.cons rfl (fun K hK => ?b18) AllReadyH.nil)
      case' a18 =>
        go_simp
        refine (H2.out _).mono ?_
        rintro e wc19 ⟨rfl, hb19⟩
        have hS_19 : Below w0.heap.size w0 wc19 := hS_17.trans (Below.mono hb19 hS_17.size)
        have hc19 := (hb19.cell (p := ⟨w0.heap.size, 0, none⟩) hl17).trans hc17
        have hl19 := Nat.lt_of_lt_of_le hl17 hb19.size
        try go_wp2_with fail
        refine hK.out _ _ hS_19 (fun _ => ?_)
        clear hK K
        simp only [List.setIfInBounds_toArray, List.set_cons_zero, List.set_cons_succ]
        refine wpAnyH_take (i := 5) (v := .string ⟨(i ++ r2).toArray⟩) rfl (by kernel_rfl) (by kernel_rfl) (by kernel_rfl) (fun _ _ _ h => h) (Or.inl ⟨by rfl, ?_⟩) hS_19 ?_
        · intro Y hY
          skip
          go_simp
          try rw [if_neg (by omega)]
          try rw [cat_eq]
          try simp only [List.append_assoc]
        simp only [Act.put, List.getElem_toArray, List.getElem_cons_succ, List.getElem_cons_zero, List.setIfInBounds_toArray, List.set_cons_zero, List.set_cons_succ]
        refine wpAnyH_ready (rs := [9, 16]) (by kernel_rfl) (by simp) ?_
        refine AllReadyH.cons rfl (fun K hK => ?a20) (AllReadyH.cons rfl (fun K hK => ?b20) AllReadyH.nil)
        case' a20 =>
          go_simp
          refine (H4.out _).mono ?_
          rintro e wc21 ⟨rfl, hb21⟩
          have hS_21 : Below w0.heap.size w0 wc21 := hS_19.trans (Below.mono hb21 hS_19.size)
          have hc21 := (hb21.cell (p := ⟨w0.heap.size, 0, none⟩) hl19).trans hc19
          have hl21 := Nat.lt_of_lt_of_le hl19 hb21.size
          try go_wp2_with fail
          refine hK.out _ _ hS_21 (fun _ => ?_)
          clear hK K
          simp only [List.setIfInBounds_toArray, List.set_cons_zero, List.set_cons_succ]
          refine wpAnyH_take (i := 10) (v := .string ⟨(i ++ (r2 ++ r4)).toArray⟩) rfl (by kernel_rfl) (by kernel_rfl) (by kernel_rfl) (fun _ _ _ h => h) (Or.inl ⟨by rfl, ?_⟩) hS_21 ?_
          · intro Y hY
            skip
            go_simp
            try rw [if_neg (by omega)]
            try rw [cat_eq]
            try simp only [List.append_assoc]
          simp only [Act.put, List.getElem_toArray, List.getElem_cons_succ, List.getElem_cons_zero, List.setIfInBounds_toArray, List.set_cons_zero, List.set_cons_succ]
          refine wpAnyH_take (i := 13) (v := .string ⟨(i ++ (r2 ++ (r4 ++ d))).toArray⟩) rfl (by kernel_rfl) (by kernel_rfl) (by kernel_rfl) (fun _ _ _ h => h) (Or.inl ⟨by rfl, ?_⟩) hS_21 ?_
          · intro Y hY
            skip
            go_simp
            try rw [if_neg (by omega)]
            try rw [cat_eq]
            try simp only [List.append_assoc]
          simp only [Act.put, List.getElem_toArray, List.getElem_cons_succ, List.getElem_cons_zero, List.setIfInBounds_toArray, List.set_cons_zero, List.set_cons_succ]
          refine wpAnyH_ready (rs := [16]) (by kernel_rfl) (by simp) ?_
          refine AllReadyH.cons rfl (fun K hK => ?_) AllReadyH.nil
          have hcv23 := HCV.out (w0.heap.size) wc21 hc21
          go_simp
          refine hK.out _ _ hS_21 (fun _ => ?_)
          clear hK K hcv23
          simp only [List.setIfInBounds_toArray, List.set_cons_zero, List.set_cons_succ]
          refine wpAnyH_take (i := 17) (v := .string ⟨(i ++ (r2 ++ (r4 ++ (d ++ [0])))).toArray⟩) rfl (by kernel_rfl) (by kernel_rfl) (by kernel_rfl) (fun _ _ _ h => h) (Or.inl ⟨by rfl, ?_⟩) hS_21 ?_
          · intro Y hY
            skip
            go_simp
            try rw [if_neg (by omega)]
            try rw [cat_eq]
            try simp only [List.append_assoc]
          simp only [Act.put, List.getElem_toArray, List.getElem_cons_succ, List.getElem_cons_zero, List.setIfInBounds_toArray, List.set_cons_zero, List.set_cons_succ]
          refine wpAnyH_take (i := 18) (v := .string ⟨(i ++ (r2 ++ (r4 ++ (d ++ [0])))).toArray⟩) rfl (by kernel_rfl) (by kernel_rfl) (by kernel_rfl) (fun _ _ _ h => h) (Or.inl ⟨by rfl, ?_⟩) hS_21 ?_
          · intro Y hY
            skip
            go_simp
          simp only [Act.put, List.getElem_toArray, List.getElem_cons_succ, List.getElem_cons_zero, List.setIfInBounds_toArray, List.set_cons_zero, List.set_cons_succ]
          refine wpAnyH_done (by kernel_rfl) ?_ _
          go_wp2_with fail
          go_ret
          exact ⟨rfl, HB.out.trans (hS_21.mono HB.out.size)⟩
        case' b20 =>
          have hcv24 := HCV.out (w0.heap.size) wc19 hc19
          go_simp
          refine hK.out _ _ hS_19 (fun _ => ?_)
          clear hK K hcv24
          simp only [List.setIfInBounds_toArray, List.set_cons_zero, List.set_cons_succ]
          refine wpAnyH_ready (rs := [9]) (by kernel_rfl) (by simp) ?_
          refine AllReadyH.cons rfl (fun K hK => ?_) AllReadyH.nil
          go_simp
          refine (H4.out _).mono ?_
          rintro e wc26 ⟨rfl, hb26⟩
          have hS_26 : Below w0.heap.size w0 wc26 := hS_19.trans (Below.mono hb26 hS_19.size)
          have hc26 := (hb26.cell (p := ⟨w0.heap.size, 0, none⟩) hl19).trans hc19
          have hl26 := Nat.lt_of_lt_of_le hl19 hb26.size
          try go_wp2_with fail
          refine hK.out _ _ hS_26 (fun _ => ?_)
          clear hK K
          simp only [List.setIfInBounds_toArray, List.set_cons_zero, List.set_cons_succ]
          refine wpAnyH_take (i := 10) (v := .string ⟨(i ++ (r2 ++ r4)).toArray⟩) rfl (by kernel_rfl) (by kernel_rfl) (by kernel_rfl) (fun _ _ _ h => h) (Or.inl ⟨by rfl, ?_⟩) hS_26 ?_
          · intro Y hY
            skip
            go_simp
            try rw [if_neg (by omega)]
            try rw [cat_eq]
            try simp only [List.append_assoc]
          simp only [Act.put, List.getElem_toArray, List.getElem_cons_succ, List.getElem_cons_zero, List.setIfInBounds_toArray, List.set_cons_zero, List.set_cons_succ]
          refine wpAnyH_take (i := 13) (v := .string ⟨(i ++ (r2 ++ (r4 ++ d))).toArray⟩) rfl (by kernel_rfl) (by kernel_rfl) (by kernel_rfl) (fun _ _ _ h => h) (Or.inl ⟨by rfl, ?_⟩) hS_26 ?_
          · intro Y hY
            skip
            go_simp
            try rw [if_neg (by omega)]
            try rw [cat_eq]
            try simp only [List.append_assoc]
          simp only [Act.put, List.getElem_toArray, List.getElem_cons_succ, List.getElem_cons_zero, List.setIfInBounds_toArray, List.set_cons_zero, List.set_cons_succ]
          refine wpAnyH_take (i := 17) (v := .string ⟨(i ++ (r2 ++ (r4 ++ (d ++ [0])))).toArray⟩) rfl (by kernel_rfl) (by kernel_rfl) (by kernel_rfl) (fun _ _ _ h => h) (Or.inl ⟨by rfl, ?_⟩) hS_26 ?_
          · intro Y hY
            skip
            go_simp
            try rw [if_neg (by omega)]
            try rw [cat_eq]
            try simp only [List.append_assoc]
          simp only [Act.put, List.getElem_toArray, List.getElem_cons_succ, List.getElem_cons_zero, List.setIfInBounds_toArray, List.set_cons_zero, List.set_cons_succ]
          refine wpAnyH_take (i := 18) (v := .string ⟨(i ++ (r2 ++ (r4 ++ (d ++ [0])))).toArray⟩) rfl (by kernel_rfl) (by kernel_rfl) (by kernel_rfl) (fun _ _ _ h => h) (Or.inl ⟨by rfl, ?_⟩) hS_26 ?_
          · intro Y hY
            skip
            go_simp
          simp only [Act.put, List.getElem_toArray, List.getElem_cons_succ, List.getElem_cons_zero, List.setIfInBounds_toArray, List.set_cons_zero, List.set_cons_succ]
          refine wpAnyH_done (by kernel_rfl) ?_ _
          go_wp2_with fail
          go_ret
          exact ⟨rfl, HB.out.trans (hS_26.mono HB.out.size)⟩
      case' b18 =>
        have hcv27 := HCV.out (w0.heap.size) wx17 hc17
        go_simp
        refine hK.out _ _ hS_17 (fun _ => ?_)
        clear hK K hcv27
        simp only [List.setIfInBounds_toArray, List.set_cons_zero, List.set_cons_succ]
        refine wpAnyH_ready (rs := [4]) (by kernel_rfl) (by simp) ?_
        refine AllReadyH.cons rfl (fun K hK => ?_) AllReadyH.nil
        go_simp
        refine (H2.out _).mono ?_
        rintro e wc29 ⟨rfl, hb29⟩
        have hS_29 : Below w0.heap.size w0 wc29 := hS_17.trans (Below.mono hb29 hS_17.size)
        have hc29 := (hb29.cell (p := ⟨w0.heap.size, 0, none⟩) hl17).trans hc17
        have hl29 := Nat.lt_of_lt_of_le hl17 hb29.size
        try go_wp2_with fail
        refine hK.out _ _ hS_29 (fun _ => ?_)
        clear hK K
        simp only [List.setIfInBounds_toArray, List.set_cons_zero, List.set_cons_succ]
        refine wpAnyH_take (i := 5) (v := .string ⟨(i ++ r2).toArray⟩) rfl (by kernel_rfl) (by kernel_rfl) (by kernel_rfl) (fun _ _ _ h => h) (Or.inl ⟨by rfl, ?_⟩) hS_29 ?_
        · intro Y hY
          skip
          go_simp
          try rw [if_neg (by omega)]
          try rw [cat_eq]
          try simp only [List.append_assoc]
        simp only [Act.put, List.getElem_toArray, List.getElem_cons_succ, List.getElem_cons_zero, List.setIfInBounds_toArray, List.set_cons_zero, List.set_cons_succ]
        refine wpAnyH_ready (rs := [9]) (by kernel_rfl) (by simp) ?_
        refine AllReadyH.cons rfl (fun K hK => ?_) AllReadyH.nil
        go_simp
        refine (H4.out _).mono ?_
        rintro e wc31 ⟨rfl, hb31⟩
        have hS_31 : Below w0.heap.size w0 wc31 := hS_29.trans (Below.mono hb31 hS_29.size)
        have hc31 := (hb31.cell (p := ⟨w0.heap.size, 0, none⟩) hl29).trans hc29
        have hl31 := Nat.lt_of_lt_of_le hl29 hb31.size
        try go_wp2_with fail
        refine hK.out _ _ hS_31 (fun _ => ?_)
        clear hK K
        simp only [List.setIfInBounds_toArray, List.set_cons_zero, List.set_cons_succ]
        refine wpAnyH_take (i := 10) (v := .string ⟨(i ++ (r2 ++ r4)).toArray⟩) rfl (by kernel_rfl) (by kernel_rfl) (by kernel_rfl) (fun _ _ _ h => h) (Or.inl ⟨by rfl, ?_⟩) hS_31 ?_
        · intro Y hY
          skip
          go_simp
          try rw [if_neg (by omega)]
          try rw [cat_eq]
          try simp only [List.append_assoc]
        simp only [Act.put, List.getElem_toArray, List.getElem_cons_succ, List.getElem_cons_zero, List.setIfInBounds_toArray, List.set_cons_zero, List.set_cons_succ]
        refine wpAnyH_take (i := 13) (v := .string ⟨(i ++ (r2 ++ (r4 ++ d))).toArray⟩) rfl (by kernel_rfl) (by kernel_rfl) (by kernel_rfl) (fun _ _ _ h => h) (Or.inl ⟨by rfl, ?_⟩) hS_31 ?_
        · intro Y hY
          skip
          go_simp
          try rw [if_neg (by omega)]
          try rw [cat_eq]
          try simp only [List.append_assoc]
        simp only [Act.put, List.getElem_toArray, List.getElem_cons_succ, List.getElem_cons_zero, List.setIfInBounds_toArray, List.set_cons_zero, List.set_cons_succ]
        refine wpAnyH_take (i := 17) (v := .string ⟨(i ++ (r2 ++ (r4 ++ (d ++ [0])))).toArray⟩) rfl (by kernel_rfl) (by kernel_rfl) (by kernel_rfl) (fun _ _ _ h => h) (Or.inl ⟨by rfl, ?_⟩) hS_31 ?_
        · intro Y hY
          skip
          go_simp
          try rw [if_neg (by omega)]
          try rw [cat_eq]
          try simp only [List.append_assoc]
        simp only [Act.put, List.getElem_toArray, List.getElem_cons_succ, List.getElem_cons_zero, List.setIfInBounds_toArray, List.set_cons_zero, List.set_cons_succ]
        refine wpAnyH_take (i := 18) (v := .string ⟨(i ++ (r2 ++ (r4 ++ (d ++ [0])))).toArray⟩) rfl (by kernel_rfl) (by kernel_rfl) (by kernel_rfl) (fun _ _ _ h => h) (Or.inl ⟨by rfl, ?_⟩) hS_31 ?_
        · intro Y hY
          skip
          go_simp
        simp only [Act.put, List.getElem_toArray, List.getElem_cons_succ, List.getElem_cons_zero, List.setIfInBounds_toArray, List.set_cons_zero, List.set_cons_succ]
        refine wpAnyH_done (by kernel_rfl) ?_ _
        go_wp2_with fail
        go_ret
        exact ⟨rfl, HB.out.trans (hS_31.mono HB.out.size)⟩
  · skip
    have HCV : Hid (∀ (g : Nat) (Y : World), Y.cell? ⟨g, 0, none⟩ = some (.int .u8 1) → (convert 45 9 (.slice (some ⟨g, 0, none⟩) 1 1)).run Try.prog Y = .ok (.string ⟨#[1]⟩) Y) := fun g Y h =>
      run_convert_bytes_back Y 45 9 5 ⟨g, 0, none⟩ 1 [1] Try.underlying45 Try.underlying5 Try.underlying9 (fun j hj => by
        obtain rfl : j = 0 := by simpa using hj
        simpa [Addr.add] using h)
    go_enter Try.func20, Try.ntmps20
    obtain ⟨c0, c1, c2, c3⟩ := HX.out _ (Below.refl _ _)
    go_wp2_with (rw [HW.out])
    clear c0 c1 c2 c3
    refine wp_region_held (S := fun Y => Below w0.heap.size w0 Y) mixed ?_
    have hS0 : Below w0.heap.size w0 w0.drew := (Below.refl _ _).drew
    rw [show Array.replicate (Array.size _) false = #[false, false, false, false, false, false, false, false, false, false, false, false, false, false, false, false, false, false, false] from rfl, show Array.size (α := Oper) _ = 19 from rfl]
    refine wpAnyH_take (i := 0) (v := .pointer (some ⟨w.heap.size, 0, none⟩)) rfl (by kernel_rfl) (by kernel_rfl) (by kernel_rfl) (fun _ _ _ h => h) (Or.inl ⟨by rfl, ?_⟩) hS0 ?_
    · intro Y hY
      skip
      go_simp
    simp only [Act.put, List.getElem_toArray, List.getElem_cons_zero, List.setIfInBounds_toArray, List.set_cons_zero, List.set_cons_succ]
    refine wpAnyH_take (i := 1) (v := .string ⟨i.toArray⟩) rfl (by kernel_rfl) (by kernel_rfl) (by kernel_rfl) (fun _ _ _ h => h) (Or.inl ⟨by rfl, ?_⟩) hS0 ?_
    · intro Y hY
      obtain ⟨c0, c1, c2, c3⟩ := HX.out _ hY
      go_simp
    simp only [Act.put, List.getElem_toArray, List.getElem_cons_succ, List.getElem_cons_zero, List.setIfInBounds_toArray, List.set_cons_zero, List.set_cons_succ]
    refine wpAnyH_take (i := 2) (v := .pointer (some ⟨w.heap.size, 1, none⟩)) rfl (by kernel_rfl) (by kernel_rfl) (by kernel_rfl) (fun _ _ _ h => h) (Or.inl ⟨by rfl, ?_⟩) hS0 ?_
    · intro Y hY
      skip
      go_simp
    simp only [Act.put, List.getElem_toArray, List.getElem_cons_succ, List.getElem_cons_zero, List.setIfInBounds_toArray, List.set_cons_zero, List.set_cons_succ]
    refine wpAnyH_take (i := 3) (v := .int .i64 (N : Nat)) rfl (by kernel_rfl) (by kernel_rfl) (by kernel_rfl) (fun _ _ _ h => h) (Or.inl ⟨by rfl, ?_⟩) hS0 ?_
    · intro Y hY
      obtain ⟨c0, c1, c2, c3⟩ := HX.out _ hY
      go_simp
    simp only [Act.put, List.getElem_toArray, List.getElem_cons_succ, List.getElem_cons_zero, List.setIfInBounds_toArray, List.set_cons_zero, List.set_cons_succ]
    refine wpAnyH_take (i := 6) (v := .pointer (some ⟨w.heap.size, 2, none⟩)) rfl (by kernel_rfl) (by kernel_rfl) (by kernel_rfl) (fun _ _ _ h => h) (Or.inl ⟨by rfl, ?_⟩) hS0 ?_
    · intro Y hY
      skip
      go_simp
    simp only [Act.put, List.getElem_toArray, List.getElem_cons_succ, List.getElem_cons_zero, List.setIfInBounds_toArray, List.set_cons_zero, List.set_cons_succ]
    refine wpAnyH_take (i := 7) (v := .string ⟨d.toArray⟩) rfl (by kernel_rfl) (by kernel_rfl) (by kernel_rfl) (fun _ _ _ h => h) (Or.inl ⟨by rfl, ?_⟩) hS0 ?_
    · intro Y hY
      obtain ⟨c0, c1, c2, c3⟩ := HX.out _ hY
      go_simp
    simp only [Act.put, List.getElem_toArray, List.getElem_cons_succ, List.getElem_cons_zero, List.setIfInBounds_toArray, List.set_cons_zero, List.set_cons_succ]
    refine wpAnyH_take (i := 8) (v := .int .i64 (d.length : Nat)) rfl (by kernel_rfl) (by kernel_rfl) (by kernel_rfl) (fun _ _ _ h => h) (Or.inl ⟨by rfl, ?_⟩) hS0 ?_
    · intro Y hY
      skip
      go_simp
    simp only [Act.put, List.getElem_toArray, List.getElem_cons_succ, List.getElem_cons_zero, List.setIfInBounds_toArray, List.set_cons_zero, List.set_cons_succ]
    refine wpAnyH_take (i := 11) (v := .pointer (some ⟨w.heap.size, 2, none⟩)) rfl (by kernel_rfl) (by kernel_rfl) (by kernel_rfl) (fun _ _ _ h => h) (Or.inl ⟨by rfl, ?_⟩) hS0 ?_
    · intro Y hY
      skip
      go_simp
    simp only [Act.put, List.getElem_toArray, List.getElem_cons_succ, List.getElem_cons_zero, List.setIfInBounds_toArray, List.set_cons_zero, List.set_cons_succ]
    refine wpAnyH_take (i := 12) (v := .string ⟨d.toArray⟩) rfl (by kernel_rfl) (by kernel_rfl) (by kernel_rfl) (fun _ _ _ h => h) (Or.inl ⟨by rfl, ?_⟩) hS0 ?_
    · intro Y hY
      obtain ⟨c0, c1, c2, c3⟩ := HX.out _ hY
      go_simp
    simp only [Act.put, List.getElem_toArray, List.getElem_cons_succ, List.getElem_cons_zero, List.setIfInBounds_toArray, List.set_cons_zero, List.set_cons_succ]
    refine wpAnyH_take (i := 14) (v := .int .u8 1) rfl (by kernel_rfl) (by kernel_rfl) (by kernel_rfl) (fun _ _ _ h => h) (Or.inl ⟨by rfl, ?_⟩) hS0 ?_
    · intro Y hY
      skip
      go_simp
    simp only [Act.put, List.getElem_toArray, List.getElem_cons_succ, List.getElem_cons_zero, List.setIfInBounds_toArray, List.set_cons_zero, List.set_cons_succ]
    refine wpAnyH_ready (rs := [4, 15]) (by kernel_rfl) (by simp) ?_
    refine AllReadyH.cons rfl (fun K hK => ?a32) (AllReadyH.cons rfl (fun K hK => ?b32) AllReadyH.nil)
    case' a32 =>
      go_simp
      refine (H2.out _).mono ?_
      rintro e wc33 ⟨rfl, hb33⟩
      have hS_33 : Below w0.heap.size w0 wc33 := hS0.trans (Below.mono hb33 hS0.size)
      try go_wp2_with fail
      refine hK.out _ _ hS_33 (fun _ => ?_)
      clear hK K
      simp only [List.setIfInBounds_toArray, List.set_cons_zero, List.set_cons_succ]
      refine wpAnyH_take (i := 5) (v := .string ⟨(i ++ r2).toArray⟩) rfl (by kernel_rfl) (by kernel_rfl) (by kernel_rfl) (fun _ _ _ h => h) (Or.inl ⟨by rfl, ?_⟩) hS_33 ?_
      · intro Y hY
        skip
        go_simp
        try rw [if_neg (by omega)]
        try rw [cat_eq]
        try simp only [List.append_assoc]
      simp only [Act.put, List.getElem_toArray, List.getElem_cons_succ, List.getElem_cons_zero, List.setIfInBounds_toArray, List.set_cons_zero, List.set_cons_succ]
      refine wpAnyH_ready (rs := [9, 15]) (by kernel_rfl) (by simp) ?_
      refine AllReadyH.cons rfl (fun K hK => ?a34) (AllReadyH.cons rfl (fun K hK => ?b34) AllReadyH.nil)
      case' a34 =>
        go_simp
        refine (H4.out _).mono ?_
        rintro e wc35 ⟨rfl, hb35⟩
        have hS_35 : Below w0.heap.size w0 wc35 := hS_33.trans (Below.mono hb35 hS_33.size)
        try go_wp2_with fail
        refine hK.out _ _ hS_35 (fun _ => ?_)
        clear hK K
        simp only [List.setIfInBounds_toArray, List.set_cons_zero, List.set_cons_succ]
        refine wpAnyH_take (i := 10) (v := .string ⟨(i ++ (r2 ++ r4)).toArray⟩) rfl (by kernel_rfl) (by kernel_rfl) (by kernel_rfl) (fun _ _ _ h => h) (Or.inl ⟨by rfl, ?_⟩) hS_35 ?_
        · intro Y hY
          skip
          go_simp
          try rw [if_neg (by omega)]
          try rw [cat_eq]
          try simp only [List.append_assoc]
        simp only [Act.put, List.getElem_toArray, List.getElem_cons_succ, List.getElem_cons_zero, List.setIfInBounds_toArray, List.set_cons_zero, List.set_cons_succ]
        refine wpAnyH_take (i := 13) (v := .string ⟨(i ++ (r2 ++ (r4 ++ d))).toArray⟩) rfl (by kernel_rfl) (by kernel_rfl) (by kernel_rfl) (fun _ _ _ h => h) (Or.inl ⟨by rfl, ?_⟩) hS_35 ?_
        · intro Y hY
          skip
          go_simp
          try rw [if_neg (by omega)]
          try rw [cat_eq]
          try simp only [List.append_assoc]
        simp only [Act.put, List.getElem_toArray, List.getElem_cons_succ, List.getElem_cons_zero, List.setIfInBounds_toArray, List.set_cons_zero, List.set_cons_succ]
        refine wpAnyH_ready (rs := [15]) (by kernel_rfl) (by simp) ?_
        refine AllReadyH.cons rfl (fun K hK => ?_) AllReadyH.nil
        go_simp
        obtain ⟨wx37, hw37⟩ : ∃ wx37, (wc35.alloc (.cells #[.int .u8 1] 5)) = wx37 := ⟨_, rfl⟩
        have hS_37 : Below w0.heap.size w0 wx37 := by rw [← hw37]; exact Below.alloc hS_35 hS_35.size _
        have hc37 : wx37.cell? ⟨wc35.heap.size, 0, none⟩ = some (.int .u8 1) := by rw [← hw37]; simp [go_sem]
        have hl37 : wc35.heap.size < wx37.heap.size := by rw [← hw37]; simp
        rw [hw37]
        refine hK.out _ _ hS_37 (fun _ => ?_)
        clear hK K hw37
        simp only [List.setIfInBounds_toArray, List.set_cons_zero, List.set_cons_succ]
        refine wpAnyH_ready (rs := [16]) (by kernel_rfl) (by simp) ?_
        refine AllReadyH.cons rfl (fun K hK => ?_) AllReadyH.nil
        have hcv39 := HCV.out (wc35.heap.size) wx37 hc37
        go_simp
        refine hK.out _ _ hS_37 (fun _ => ?_)
        clear hK K hcv39
        simp only [List.setIfInBounds_toArray, List.set_cons_zero, List.set_cons_succ]
        refine wpAnyH_take (i := 17) (v := .string ⟨(i ++ (r2 ++ (r4 ++ (d ++ [1])))).toArray⟩) rfl (by kernel_rfl) (by kernel_rfl) (by kernel_rfl) (fun _ _ _ h => h) (Or.inl ⟨by rfl, ?_⟩) hS_37 ?_
        · intro Y hY
          skip
          go_simp
          try rw [if_neg (by omega)]
          try rw [cat_eq]
          try simp only [List.append_assoc]
        simp only [Act.put, List.getElem_toArray, List.getElem_cons_succ, List.getElem_cons_zero, List.setIfInBounds_toArray, List.set_cons_zero, List.set_cons_succ]
        refine wpAnyH_take (i := 18) (v := .string ⟨(i ++ (r2 ++ (r4 ++ (d ++ [1])))).toArray⟩) rfl (by kernel_rfl) (by kernel_rfl) (by kernel_rfl) (fun _ _ _ h => h) (Or.inl ⟨by rfl, ?_⟩) hS_37 ?_
        · intro Y hY
          skip
          go_simp
        simp only [Act.put, List.getElem_toArray, List.getElem_cons_succ, List.getElem_cons_zero, List.setIfInBounds_toArray, List.set_cons_zero, List.set_cons_succ]
        refine wpAnyH_done (by kernel_rfl) ?_ _
        go_wp2_with fail
        go_ret
        exact ⟨rfl, HB.out.trans (hS_37.mono HB.out.size)⟩
      case' b34 =>
        go_simp
        obtain ⟨wx40, hw40⟩ : ∃ wx40, (wc33.alloc (.cells #[.int .u8 1] 5)) = wx40 := ⟨_, rfl⟩
        have hS_40 : Below w0.heap.size w0 wx40 := by rw [← hw40]; exact Below.alloc hS_33 hS_33.size _
        have hc40 : wx40.cell? ⟨wc33.heap.size, 0, none⟩ = some (.int .u8 1) := by rw [← hw40]; simp [go_sem]
        have hl40 : wc33.heap.size < wx40.heap.size := by rw [← hw40]; simp
        rw [hw40]
        refine hK.out _ _ hS_40 (fun _ => ?_)
        clear hK K hw40
        simp only [List.setIfInBounds_toArray, List.set_cons_zero, List.set_cons_succ]
        refine wpAnyH_ready (rs := [9, 16]) (by kernel_rfl) (by simp) ?_
        refine AllReadyH.cons rfl (fun K hK => ?a41) (AllReadyH.cons rfl (fun K hK => ?b41) AllReadyH.nil)
        case' a41 =>
          go_simp
          refine (H4.out _).mono ?_
          rintro e wc42 ⟨rfl, hb42⟩
          have hS_42 : Below w0.heap.size w0 wc42 := hS_40.trans (Below.mono hb42 hS_40.size)
          have hc42 := (hb42.cell (p := ⟨wc33.heap.size, 0, none⟩) hl40).trans hc40
          have hl42 := Nat.lt_of_lt_of_le hl40 hb42.size
          try go_wp2_with fail
          refine hK.out _ _ hS_42 (fun _ => ?_)
          clear hK K
          simp only [List.setIfInBounds_toArray, List.set_cons_zero, List.set_cons_succ]
          refine wpAnyH_take (i := 10) (v := .string ⟨(i ++ (r2 ++ r4)).toArray⟩) rfl (by kernel_rfl) (by kernel_rfl) (by kernel_rfl) (fun _ _ _ h => h) (Or.inl ⟨by rfl, ?_⟩) hS_42 ?_
          · intro Y hY
            skip
            go_simp
            try rw [if_neg (by omega)]
            try rw [cat_eq]
            try simp only [List.append_assoc]
          simp only [Act.put, List.getElem_toArray, List.getElem_cons_succ, List.getElem_cons_zero, List.setIfInBounds_toArray, List.set_cons_zero, List.set_cons_succ]
          refine wpAnyH_take (i := 13) (v := .string ⟨(i ++ (r2 ++ (r4 ++ d))).toArray⟩) rfl (by kernel_rfl) (by kernel_rfl) (by kernel_rfl) (fun _ _ _ h => h) (Or.inl ⟨by rfl, ?_⟩) hS_42 ?_
          · intro Y hY
            skip
            go_simp
            try rw [if_neg (by omega)]
            try rw [cat_eq]
            try simp only [List.append_assoc]
          simp only [Act.put, List.getElem_toArray, List.getElem_cons_succ, List.getElem_cons_zero, List.setIfInBounds_toArray, List.set_cons_zero, List.set_cons_succ]
          refine wpAnyH_ready (rs := [16]) (by kernel_rfl) (by simp) ?_
          refine AllReadyH.cons rfl (fun K hK => ?_) AllReadyH.nil
          have hcv44 := HCV.out (wc33.heap.size) wc42 hc42
          go_simp
          refine hK.out _ _ hS_42 (fun _ => ?_)
          clear hK K hcv44
          simp only [List.setIfInBounds_toArray, List.set_cons_zero, List.set_cons_succ]
          refine wpAnyH_take (i := 17) (v := .string ⟨(i ++ (r2 ++ (r4 ++ (d ++ [1])))).toArray⟩) rfl (by kernel_rfl) (by kernel_rfl) (by kernel_rfl) (fun _ _ _ h => h) (Or.inl ⟨by rfl, ?_⟩) hS_42 ?_
          · intro Y hY
            skip
            go_simp
            try rw [if_neg (by omega)]
            try rw [cat_eq]
            try simp only [List.append_assoc]
          simp only [Act.put, List.getElem_toArray, List.getElem_cons_succ, List.getElem_cons_zero, List.setIfInBounds_toArray, List.set_cons_zero, List.set_cons_succ]
          refine wpAnyH_take (i := 18) (v := .string ⟨(i ++ (r2 ++ (r4 ++ (d ++ [1])))).toArray⟩) rfl (by kernel_rfl) (by kernel_rfl) (by kernel_rfl) (fun _ _ _ h => h) (Or.inl ⟨by rfl, ?_⟩) hS_42 ?_
          · intro Y hY
            skip
            go_simp
          simp only [Act.put, List.getElem_toArray, List.getElem_cons_succ, List.getElem_cons_zero, List.setIfInBounds_toArray, List.set_cons_zero, List.set_cons_succ]
          refine wpAnyH_done (by kernel_rfl) ?_ _
          go_wp2_with fail
          go_ret
          exact ⟨rfl, HB.out.trans (hS_42.mono HB.out.size)⟩
        case' b41 =>
          have hcv45 := HCV.out (wc33.heap.size) wx40 hc40
          go_simp
          refine hK.out _ _ hS_40 (fun _ => ?_)
          clear hK K hcv45
          simp only [List.setIfInBounds_toArray, List.set_cons_zero, List.set_cons_succ]
          refine wpAnyH_ready (rs := [9]) (by kernel_rfl) (by simp) ?_
          refine AllReadyH.cons rfl (fun K hK => ?_) AllReadyH.nil
          go_simp
          refine (H4.out _).mono ?_
          rintro e wc47 ⟨rfl, hb47⟩
          have hS_47 : Below w0.heap.size w0 wc47 := hS_40.trans (Below.mono hb47 hS_40.size)
          have hc47 := (hb47.cell (p := ⟨wc33.heap.size, 0, none⟩) hl40).trans hc40
          have hl47 := Nat.lt_of_lt_of_le hl40 hb47.size
          try go_wp2_with fail
          refine hK.out _ _ hS_47 (fun _ => ?_)
          clear hK K
          simp only [List.setIfInBounds_toArray, List.set_cons_zero, List.set_cons_succ]
          refine wpAnyH_take (i := 10) (v := .string ⟨(i ++ (r2 ++ r4)).toArray⟩) rfl (by kernel_rfl) (by kernel_rfl) (by kernel_rfl) (fun _ _ _ h => h) (Or.inl ⟨by rfl, ?_⟩) hS_47 ?_
          · intro Y hY
            skip
            go_simp
            try rw [if_neg (by omega)]
            try rw [cat_eq]
            try simp only [List.append_assoc]
          simp only [Act.put, List.getElem_toArray, List.getElem_cons_succ, List.getElem_cons_zero, List.setIfInBounds_toArray, List.set_cons_zero, List.set_cons_succ]
          refine wpAnyH_take (i := 13) (v := .string ⟨(i ++ (r2 ++ (r4 ++ d))).toArray⟩) rfl (by kernel_rfl) (by kernel_rfl) (by kernel_rfl) (fun _ _ _ h => h) (Or.inl ⟨by rfl, ?_⟩) hS_47 ?_
          · intro Y hY
            skip
            go_simp
            try rw [if_neg (by omega)]
            try rw [cat_eq]
            try simp only [List.append_assoc]
          simp only [Act.put, List.getElem_toArray, List.getElem_cons_succ, List.getElem_cons_zero, List.setIfInBounds_toArray, List.set_cons_zero, List.set_cons_succ]
          refine wpAnyH_take (i := 17) (v := .string ⟨(i ++ (r2 ++ (r4 ++ (d ++ [1])))).toArray⟩) rfl (by kernel_rfl) (by kernel_rfl) (by kernel_rfl) (fun _ _ _ h => h) (Or.inl ⟨by rfl, ?_⟩) hS_47 ?_
          · intro Y hY
            skip
            go_simp
            try rw [if_neg (by omega)]
            try rw [cat_eq]
            try simp only [List.append_assoc]
          simp only [Act.put, List.getElem_toArray, List.getElem_cons_succ, List.getElem_cons_zero, List.setIfInBounds_toArray, List.set_cons_zero, List.set_cons_succ]
          refine wpAnyH_take (i := 18) (v := .string ⟨(i ++ (r2 ++ (r4 ++ (d ++ [1])))).toArray⟩) rfl (by kernel_rfl) (by kernel_rfl) (by kernel_rfl) (fun _ _ _ h => h) (Or.inl ⟨by rfl, ?_⟩) hS_47 ?_
          · intro Y hY
            skip
            go_simp
          simp only [Act.put, List.getElem_toArray, List.getElem_cons_succ, List.getElem_cons_zero, List.setIfInBounds_toArray, List.set_cons_zero, List.set_cons_succ]
          refine wpAnyH_done (by kernel_rfl) ?_ _
          go_wp2_with fail
          go_ret
          exact ⟨rfl, HB.out.trans (hS_47.mono HB.out.size)⟩
    case' b32 =>
      go_simp
      obtain ⟨wx48, hw48⟩ : ∃ wx48, ((w0.alloc (.cells #[.int .u8 1] 5)).drew) = wx48 := ⟨_, rfl⟩
      have hS_48 : Below w0.heap.size w0 wx48 := by rw [← hw48]; exact (Below.alloc (Below.refl _ _) (Nat.le_refl _) _).drew
      have hc48 : wx48.cell? ⟨w0.heap.size, 0, none⟩ = some (.int .u8 1) := by rw [← hw48]; simp [go_sem]
      have hl48 : w0.heap.size < wx48.heap.size := by rw [← hw48]; simp
      rw [hw48]
      refine hK.out _ _ hS_48 (fun _ => ?_)
      clear hK K hw48
      simp only [List.setIfInBounds_toArray, List.set_cons_zero, List.set_cons_succ]
      refine wpAnyH_ready (rs := [4, 16]) (by kernel_rfl) (by simp) ?_
      refine AllReadyH.cons rfl (fun K hK => ?a49) (AllReadyH.cons rfl (fun K hK => ?b49) AllReadyH.nil)
      case' a49 =>
        go_simp
        refine (H2.out _).mono ?_
        rintro e wc50 ⟨rfl, hb50⟩
        have hS_50 : Below w0.heap.size w0 wc50 := hS_48.trans (Below.mono hb50 hS_48.size)
        have hc50 := (hb50.cell (p := ⟨w0.heap.size, 0, none⟩) hl48).trans hc48
        have hl50 := Nat.lt_of_lt_of_le hl48 hb50.size
        try go_wp2_with fail
        refine hK.out _ _ hS_50 (fun _ => ?_)
        clear hK K
        simp only [List.setIfInBounds_toArray, List.set_cons_zero, List.set_cons_succ]
        refine wpAnyH_take (i := 5) (v := .string ⟨(i ++ r2).toArray⟩) rfl (by kernel_rfl) (by kernel_rfl) (by kernel_rfl) (fun _ _ _ h => h) (Or.inl ⟨by rfl, ?_⟩) hS_50 ?_
        · intro Y hY
          skip
          go_simp
          try rw [if_neg (by omega)]
          try rw [cat_eq]
          try simp only [List.append_assoc]
        simp only [Act.put, List.getElem_toArray, List.getElem_cons_succ, List.getElem_cons_zero, List.setIfInBounds_toArray, List.set_cons_zero, List.set_cons_succ]
        refine wpAnyH_ready (rs := [9, 16]) (by kernel_rfl) (by simp) ?_
        refine AllReadyH.cons rfl (fun K hK => ?a51) (AllReadyH.cons rfl (fun K hK => ?b51) AllReadyH.nil)
        case' a51 =>
          go_simp
          refine (H4.out _).mono ?_
          rintro e wc52 ⟨rfl, hb52⟩
          have hS_52 : Below w0.heap.size w0 wc52 := hS_50.trans (Below.mono hb52 hS_50.size)
          have hc52 := (hb52.cell (p := ⟨w0.heap.size, 0, none⟩) hl50).trans hc50
          have hl52 := Nat.lt_of_lt_of_le hl50 hb52.size
          try go_wp2_with fail
          refine hK.out _ _ hS_52 (fun _ => ?_)
          clear hK K
          simp only [List.setIfInBounds_toArray, List.set_cons_zero, List.set_cons_succ]
          refine wpAnyH_take (i := 10) (v := .string ⟨(i ++ (r2 ++ r4)).toArray⟩) rfl (by kernel_rfl) (by kernel_rfl) (by kernel_rfl) (fun _ _ _ h => h) (Or.inl ⟨by rfl, ?_⟩) hS_52 ?_
          · intro Y hY
            skip
            go_simp
            try rw [if_neg (by omega)]
            try rw [cat_eq]
            try simp only [List.append_assoc]
          simp only [Act.put, List.getElem_toArray, List.getElem_cons_succ, List.getElem_cons_zero, List.setIfInBounds_toArray, List.set_cons_zero, List.set_cons_succ]
          refine wpAnyH_take (i := 13) (v := .string ⟨(i ++ (r2 ++ (r4 ++ d))).toArray⟩) rfl (by kernel_rfl) (by kernel_rfl) (by kernel_rfl) (fun _ _ _ h => h) (Or.inl ⟨by rfl, ?_⟩) hS_52 ?_
          · intro Y hY
            skip
            go_simp
            try rw [if_neg (by omega)]
            try rw [cat_eq]
            try simp only [List.append_assoc]
          simp only [Act.put, List.getElem_toArray, List.getElem_cons_succ, List.getElem_cons_zero, List.setIfInBounds_toArray, List.set_cons_zero, List.set_cons_succ]
          refine wpAnyH_ready (rs := [16]) (by kernel_rfl) (by simp) ?_
          refine AllReadyH.cons rfl (fun K hK => ?_) AllReadyH.nil
          have hcv54 := HCV.out (w0.heap.size) wc52 hc52
          go_simp
          refine hK.out _ _ hS_52 (fun _ => ?_)
          clear hK K hcv54
          simp only [List.setIfInBounds_toArray, List.set_cons_zero, List.set_cons_succ]
          refine wpAnyH_take (i := 17) (v := .string ⟨(i ++ (r2 ++ (r4 ++ (d ++ [1])))).toArray⟩) rfl (by kernel_rfl) (by kernel_rfl) (by kernel_rfl) (fun _ _ _ h => h) (Or.inl ⟨by rfl, ?_⟩) hS_52 ?_
          · intro Y hY
            skip
            go_simp
            try rw [if_neg (by omega)]
            try rw [cat_eq]
            try simp only [List.append_assoc]
          simp only [Act.put, List.getElem_toArray, List.getElem_cons_succ, List.getElem_cons_zero, List.setIfInBounds_toArray, List.set_cons_zero, List.set_cons_succ]
          refine wpAnyH_take (i := 18) (v := .string ⟨(i ++ (r2 ++ (r4 ++ (d ++ [1])))).toArray⟩) rfl (by kernel_rfl) (by kernel_rfl) (by kernel_rfl) (fun _ _ _ h => h) (Or.inl ⟨by rfl, ?_⟩) hS_52 ?_
          · intro Y hY
            skip
            go_simp
          simp only [Act.put, List.getElem_toArray, List.getElem_cons_succ, List.getElem_cons_zero, List.setIfInBounds_toArray, List.set_cons_zero, List.set_cons_succ]
          refine wpAnyH_done (by kernel_rfl) ?_ _
          go_wp2_with fail
          go_ret
          exact ⟨rfl, HB.out.trans (hS_52.mono HB.out.size)⟩
        case' b51 =>
          have hcv55 := HCV.out (w0.heap.size) wc50 hc50
          go_simp
          refine hK.out _ _ hS_50 (fun _ => ?_)
          clear hK K hcv55
          simp only [List.setIfInBounds_toArray, List.set_cons_zero, List.set_cons_succ]
          refine wpAnyH_ready (rs := [9]) (by kernel_rfl) (by simp) ?_
          refine AllReadyH.cons rfl (fun K hK => ?_) AllReadyH.nil
          go_simp
          refine (H4.out _).mono ?_
          rintro e wc57 ⟨rfl, hb57⟩
          have hS_57 : Below w0.heap.size w0 wc57 := hS_50.trans (Below.mono hb57 hS_50.size)
          have hc57 := (hb57.cell (p := ⟨w0.heap.size, 0, none⟩) hl50).trans hc50
          have hl57 := Nat.lt_of_lt_of_le hl50 hb57.size
          try go_wp2_with fail
          refine hK.out _ _ hS_57 (fun _ => ?_)
          clear hK K
          simp only [List.setIfInBounds_toArray, List.set_cons_zero, List.set_cons_succ]
          refine wpAnyH_take (i := 10) (v := .string ⟨(i ++ (r2 ++ r4)).toArray⟩) rfl (by kernel_rfl) (by kernel_rfl) (by kernel_rfl) (fun _ _ _ h => h) (Or.inl ⟨by rfl, ?_⟩) hS_57 ?_
          · intro Y hY
            skip
            go_simp
            try rw [if_neg (by omega)]
            try rw [cat_eq]
            try simp only [List.append_assoc]
          simp only [Act.put, List.getElem_toArray, List.getElem_cons_succ, List.getElem_cons_zero, List.setIfInBounds_toArray, List.set_cons_zero, List.set_cons_succ]
          refine wpAnyH_take (i := 13) (v := .string ⟨(i ++ (r2 ++ (r4 ++ d))).toArray⟩) rfl (by kernel_rfl) (by kernel_rfl) (by kernel_rfl) (fun _ _ _ h => h) (Or.inl ⟨by rfl, ?_⟩) hS_57 ?_
          · intro Y hY
            skip
            go_simp
            try rw [if_neg (by omega)]
            try rw [cat_eq]
            try simp only [List.append_assoc]
          simp only [Act.put, List.getElem_toArray, List.getElem_cons_succ, List.getElem_cons_zero, List.setIfInBounds_toArray, List.set_cons_zero, List.set_cons_succ]
          refine wpAnyH_take (i := 17) (v := .string ⟨(i ++ (r2 ++ (r4 ++ (d ++ [1])))).toArray⟩) rfl (by kernel_rfl) (by kernel_rfl) (by kernel_rfl) (fun _ _ _ h => h) (Or.inl ⟨by rfl, ?_⟩) hS_57 ?_
          · intro Y hY
            skip
            go_simp
            try rw [if_neg (by omega)]
            try rw [cat_eq]
            try simp only [List.append_assoc]
          simp only [Act.put, List.getElem_toArray, List.getElem_cons_succ, List.getElem_cons_zero, List.setIfInBounds_toArray, List.set_cons_zero, List.set_cons_succ]
          refine wpAnyH_take (i := 18) (v := .string ⟨(i ++ (r2 ++ (r4 ++ (d ++ [1])))).toArray⟩) rfl (by kernel_rfl) (by kernel_rfl) (by kernel_rfl) (fun _ _ _ h => h) (Or.inl ⟨by rfl, ?_⟩) hS_57 ?_
          · intro Y hY
            skip
            go_simp
          simp only [Act.put, List.getElem_toArray, List.getElem_cons_succ, List.getElem_cons_zero, List.setIfInBounds_toArray, List.set_cons_zero, List.set_cons_succ]
          refine wpAnyH_done (by kernel_rfl) ?_ _
          go_wp2_with fail
          go_ret
          exact ⟨rfl, HB.out.trans (hS_57.mono HB.out.size)⟩
      case' b49 =>
        have hcv58 := HCV.out (w0.heap.size) wx48 hc48
        go_simp
        refine hK.out _ _ hS_48 (fun _ => ?_)
        clear hK K hcv58
        simp only [List.setIfInBounds_toArray, List.set_cons_zero, List.set_cons_succ]
        refine wpAnyH_ready (rs := [4]) (by kernel_rfl) (by simp) ?_
        refine AllReadyH.cons rfl (fun K hK => ?_) AllReadyH.nil
        go_simp
        refine (H2.out _).mono ?_
        rintro e wc60 ⟨rfl, hb60⟩
        have hS_60 : Below w0.heap.size w0 wc60 := hS_48.trans (Below.mono hb60 hS_48.size)
        have hc60 := (hb60.cell (p := ⟨w0.heap.size, 0, none⟩) hl48).trans hc48
        have hl60 := Nat.lt_of_lt_of_le hl48 hb60.size
        try go_wp2_with fail
        refine hK.out _ _ hS_60 (fun _ => ?_)
        clear hK K
        simp only [List.setIfInBounds_toArray, List.set_cons_zero, List.set_cons_succ]
        refine wpAnyH_take (i := 5) (v := .string ⟨(i ++ r2).toArray⟩) rfl (by kernel_rfl) (by kernel_rfl) (by kernel_rfl) (fun _ _ _ h => h) (Or.inl ⟨by rfl, ?_⟩) hS_60 ?_
        · intro Y hY
          skip
          go_simp
          try rw [if_neg (by omega)]
          try rw [cat_eq]
          try simp only [List.append_assoc]
        simp only [Act.put, List.getElem_toArray, List.getElem_cons_succ, List.getElem_cons_zero, List.setIfInBounds_toArray, List.set_cons_zero, List.set_cons_succ]
        refine wpAnyH_ready (rs := [9]) (by kernel_rfl) (by simp) ?_
        refine AllReadyH.cons rfl (fun K hK => ?_) AllReadyH.nil
        go_simp
        refine (H4.out _).mono ?_
        rintro e wc62 ⟨rfl, hb62⟩
        have hS_62 : Below w0.heap.size w0 wc62 := hS_60.trans (Below.mono hb62 hS_60.size)
        have hc62 := (hb62.cell (p := ⟨w0.heap.size, 0, none⟩) hl60).trans hc60
        have hl62 := Nat.lt_of_lt_of_le hl60 hb62.size
        try go_wp2_with fail
        refine hK.out _ _ hS_62 (fun _ => ?_)
        clear hK K
        simp only [List.setIfInBounds_toArray, List.set_cons_zero, List.set_cons_succ]
        refine wpAnyH_take (i := 10) (v := .string ⟨(i ++ (r2 ++ r4)).toArray⟩) rfl (by kernel_rfl) (by kernel_rfl) (by kernel_rfl) (fun _ _ _ h => h) (Or.inl ⟨by rfl, ?_⟩) hS_62 ?_
        · intro Y hY
          skip
          go_simp
          try rw [if_neg (by omega)]
          try rw [cat_eq]
          try simp only [List.append_assoc]
        simp only [Act.put, List.getElem_toArray, List.getElem_cons_succ, List.getElem_cons_zero, List.setIfInBounds_toArray, List.set_cons_zero, List.set_cons_succ]
        refine wpAnyH_take (i := 13) (v := .string ⟨(i ++ (r2 ++ (r4 ++ d))).toArray⟩) rfl (by kernel_rfl) (by kernel_rfl) (by kernel_rfl) (fun _ _ _ h => h) (Or.inl ⟨by rfl, ?_⟩) hS_62 ?_
        · intro Y hY
          skip
          go_simp
          try rw [if_neg (by omega)]
          try rw [cat_eq]
          try simp only [List.append_assoc]
        simp only [Act.put, List.getElem_toArray, List.getElem_cons_succ, List.getElem_cons_zero, List.setIfInBounds_toArray, List.set_cons_zero, List.set_cons_succ]
        refine wpAnyH_take (i := 17) (v := .string ⟨(i ++ (r2 ++ (r4 ++ (d ++ [1])))).toArray⟩) rfl (by kernel_rfl) (by kernel_rfl) (by kernel_rfl) (fun _ _ _ h => h) (Or.inl ⟨by rfl, ?_⟩) hS_62 ?_
        · intro Y hY
          skip
          go_simp
          try rw [if_neg (by omega)]
          try rw [cat_eq]
          try simp only [List.append_assoc]
        simp only [Act.put, List.getElem_toArray, List.getElem_cons_succ, List.getElem_cons_zero, List.setIfInBounds_toArray, List.set_cons_zero, List.set_cons_succ]
        refine wpAnyH_take (i := 18) (v := .string ⟨(i ++ (r2 ++ (r4 ++ (d ++ [1])))).toArray⟩) rfl (by kernel_rfl) (by kernel_rfl) (by kernel_rfl) (fun _ _ _ h => h) (Or.inl ⟨by rfl, ?_⟩) hS_62 ?_
        · intro Y hY
          skip
          go_simp
        simp only [Act.put, List.getElem_toArray, List.getElem_cons_succ, List.getElem_cons_zero, List.setIfInBounds_toArray, List.set_cons_zero, List.set_cons_succ]
        refine wpAnyH_done (by kernel_rfl) ?_ _
        go_wp2_with fail
        go_ret
        exact ⟨rfl, HB.out.trans (hS_62.mono HB.out.size)⟩
end Go.Proofs.Ytgeeoefcepjniaa
