/- frame.One. -/
import Derived.Test.YtgeeoefcepjniaaJF2
import Derived.Test.YtgeeoefcepjniaaF0
import Derived.OrdersHeld
import Derived.Deep.RegionHeld
namespace Go.Proofs.Ytgeeoefcepjniaa
open Go Go.RowKit

def i14 (i : List UInt8) (N : Nat) (d : List UInt8) (l : Bool) : List UInt8 := i ++ (M.wrN [(N, 2), (d.length, 4)] ++ (d ++ M.wrN [((if l then 1 else 0), 1)]))

set_option maxRecDepth 100000 in
set_option maxHeartbeats 8000000 in
theorem fone_any (f : M.Fr) (w : World) : Calls Try.prog 11 #[frv f] w fun e w' => e = .returned (.tuple #[.string ⟨(M.oneF f).1.toArray⟩, .int .i64 ((M.oneF f).2 : Nat)]) ∧ Below w.heap.size w w' := by
  have mixed : Try.prog.follows .mixedOrders = true := by kernel_rfl
  obtain ⟨wB, hwB⟩ : ∃ wB, w.alloc (.cells #[.string ⟨f.id.toArray⟩, .int .i64 f.num, .string ⟨f.data.toArray⟩, .bool f.last] 24) = wB := ⟨_, rfl⟩
  have hb0 : Below w.heap.size w wB := by rw [← hwB]; exact (Below.refl _ _).alloc (Nat.le_refl _) _
  have hX0 : FrBox wB w.heap.size f := by rw [← hwB]; exact FrBox.new w f _
  have hlt : w.heap.size < wB.heap.size := by rw [← hwB]; simp
  have H := Lib.hid (fun W => fcheck_any f W)
  have HW := Lib.hid hwB
  have HB := Lib.hid hb0
  have HX0 := Lib.hid hX0
  have HLT := Lib.hid hlt
  unfold M.oneF
  obtain ⟨c0, c1, c2, c3⟩ := hX0
  clear hb0 hlt hwB
  by_cases hk : M.chkF f = 0
  · rw [if_pos hk]
    obtain ⟨h1, h2, h3, h4⟩ := M.chkF_ok hk
    rw [hk] at H
    obtain ⟨N, hN⟩ : ∃ N : Nat, f.num = N := ⟨f.num.toNat, by omega⟩
    have hby : M.bytF f = i14 f.id N f.data f.last := by
      unfold M.bytF i14 M.wrN
      rw [hN]
      simp [List.append_assoc]
      cases f.last <;> rfl
    rw [hby]
    clear hby hk
    obtain ⟨i, n, d, l⟩ := f
    dsimp only at *
    obtain rfl : n = (N : Int) := hN
    have hN2 : N < 65536 := by omega
    clear h2 h3
    cases l
    · skip
      obtain ⟨r6, h6⟩ : ∃ r6, M.wrN [(N, 2), (d.length, 4)] = r6 := ⟨_, rfl⟩
      obtain ⟨r1, h7⟩ : ∃ r1, M.wrN [(0, 1)] = r1 := ⟨_, rfl⟩
      have l6 : r6.length = 6 := by rw [← h6]; simp [M.wrN, M.be_length]
      have l1 : r1.length = 1 := by rw [← h7]; simp [M.wrN, M.be_length]
      have HE : i14 i N d false = i ++ (r6 ++ (d ++ r1)) := by unfold i14; rw [h6, ← h7]; rfl
      rw [HE]
      have H6 := Lib.hid h6
      have H1 := Lib.hid h7
      clear h6 h7 HE
      go_enter Try.func11, Try.ntmps11
      go_wp2_with (rw [HW.out])
      refine (H.out _).mono ?_
      rintro e w0 ⟨rfl, hb1⟩
      have HX := Lib.hid (fun W (h : Below w0.heap.size w0 W) => (HX0.out.from_ hb1 HLT.out).from_ h (Nat.lt_of_lt_of_le HLT.out hb1.size))
      have HB1 := Lib.hid (HB.out.trans (hb1.mono HB.out.size))
      clear c0 c1 c2 c3 hb1 HX0 HB H HW
      obtain ⟨c0, c1, c2, c3⟩ := HX.out _ (Below.refl _ _)
      go_wp2_with fail
      clear c0 c1 c2 c3
      refine wp_region_held (S := fun Y => Below w0.heap.size w0 Y) mixed ?_
      have hS0 : Below w0.heap.size w0 w0.drew := (Below.refl _ _).drew
      rw [show Array.replicate (Array.size _) false = #[false, false, false, false, false, false, false, false, false, false, false, false, false] from rfl, show Array.size (α := Oper) _ = 13 from rfl]
      refine wpAnyH_take (i := 0) (v := .pointer (some ⟨w.heap.size, 0, none⟩)) rfl (by kernel_rfl) (by kernel_rfl) (by kernel_rfl) (fun _ _ _ h => h) (Or.inl ⟨by rfl, ?_⟩) hS0 ?_
      · intro Y hY
        skip
        go_simp
      simp only [Act.put, List.getElem_toArray, List.getElem_cons_zero, List.setIfInBounds_toArray, List.set_cons_zero, List.set_cons_succ]
      refine wpAnyH_take (i := 1) (v := .string ⟨i.toArray⟩) rfl (by kernel_rfl) (by kernel_rfl) (by kernel_rfl) (fun _ _ _ h => h) (Or.inl ⟨by rfl, ?_⟩) hS0 ?_
      · intro Y hY
        obtain ⟨c0, c1, c2, c3⟩ := HX.out _ hY
        go_simp
      simp only [Act.put, List.getElem_toArray, List.getElem_cons_succ, List.getElem_cons_zero, List.setIfInBounds_toArray, List.set_cons_zero, List.set_cons_succ]
      refine wpAnyH_take (i := 2) (v := .pointer (some ⟨w.heap.size, 1, none⟩)) rfl (by kernel_rfl) (by kernel_rfl) (by kernel_rfl) (fun _ _ _ h => h) (Or.inl ⟨by rfl, ?_⟩) hS0 ?_
      · intro Y hY
        skip
        go_simp
      simp only [Act.put, List.getElem_toArray, List.getElem_cons_succ, List.getElem_cons_zero, List.setIfInBounds_toArray, List.set_cons_zero, List.set_cons_succ]
      refine wpAnyH_take (i := 3) (v := .int .i64 (N : Nat)) rfl (by kernel_rfl) (by kernel_rfl) (by kernel_rfl) (fun _ _ _ h => h) (Or.inl ⟨by rfl, ?_⟩) hS0 ?_
      · intro Y hY
        obtain ⟨c0, c1, c2, c3⟩ := HX.out _ hY
        go_simp
      simp only [Act.put, List.getElem_toArray, List.getElem_cons_succ, List.getElem_cons_zero, List.setIfInBounds_toArray, List.set_cons_zero, List.set_cons_succ]
      refine wpAnyH_take (i := 4) (v := .agg #[.int .i64 (N : Nat), .int .i64 2]) rfl (by kernel_rfl) (by kernel_rfl) (by kernel_rfl) (fun _ _ _ h => h) (Or.inl ⟨by rfl, ?_⟩) hS0 ?_
      · intro Y hY
        skip
        go_simp
      simp only [Act.put, List.getElem_toArray, List.getElem_cons_succ, List.getElem_cons_zero, List.setIfInBounds_toArray, List.set_cons_zero, List.set_cons_succ]
      refine wpAnyH_take (i := 5) (v := .pointer (some ⟨w.heap.size, 2, none⟩)) rfl (by kernel_rfl) (by kernel_rfl) (by kernel_rfl) (fun _ _ _ h => h) (Or.inl ⟨by rfl, ?_⟩) hS0 ?_
      · intro Y hY
        skip
        go_simp
      simp only [Act.put, List.getElem_toArray, List.getElem_cons_succ, List.getElem_cons_zero, List.setIfInBounds_toArray, List.set_cons_zero, List.set_cons_succ]
      refine wpAnyH_take (i := 6) (v := .string ⟨d.toArray⟩) rfl (by kernel_rfl) (by kernel_rfl) (by kernel_rfl) (fun _ _ _ h => h) (Or.inl ⟨by rfl, ?_⟩) hS0 ?_
      · intro Y hY
        obtain ⟨c0, c1, c2, c3⟩ := HX.out _ hY
        go_simp
      simp only [Act.put, List.getElem_toArray, List.getElem_cons_succ, List.getElem_cons_zero, List.setIfInBounds_toArray, List.set_cons_zero, List.set_cons_succ]
      refine wpAnyH_take (i := 7) (v := .int .i64 (d.length : Nat)) rfl (by kernel_rfl) (by kernel_rfl) (by kernel_rfl) (fun _ _ _ h => h) (Or.inl ⟨by rfl, ?_⟩) hS0 ?_
      · intro Y hY
        skip
        go_simp
      simp only [Act.put, List.getElem_toArray, List.getElem_cons_succ, List.getElem_cons_zero, List.setIfInBounds_toArray, List.set_cons_zero, List.set_cons_succ]
      refine wpAnyH_take (i := 8) (v := .agg #[.int .i64 (d.length : Nat), .int .i64 4]) rfl (by kernel_rfl) (by kernel_rfl) (by kernel_rfl) (fun _ _ _ h => h) (Or.inl ⟨by rfl, ?_⟩) hS0 ?_
      · intro Y hY
        skip
        go_simp
      simp only [Act.put, List.getElem_toArray, List.getElem_cons_succ, List.getElem_cons_zero, List.setIfInBounds_toArray, List.set_cons_zero, List.set_cons_succ]
      refine wpAnyH_ready (rs := [9]) (by kernel_rfl) (by simp) ?_
      refine AllReadyH.cons rfl (fun K hK => ?_) AllReadyH.nil
      go_simp
      refine hK.out _ _ (hS0.alloc (Nat.le_refl _) _) (fun _ => ?_)
      clear hK K
      simp only [List.setIfInBounds_toArray, List.set_cons_zero, List.set_cons_succ]
      obtain ⟨wa, hwa⟩ : ∃ wa, (w0.alloc (.cells #[.int .i64 (N : Nat), .int .i64 2, .int .i64 (d.length : Nat), .int .i64 4] 42)).drew = wa := ⟨_, rfl⟩
      have hSa : Below w0.heap.size w0 wa := by rw [← hwa]; exact ((Below.refl _ _).alloc (Nat.le_refl _) _).drew
      have hga : w0.heap.size < wa.heap.size := by rw [← hwa]; simp
      have hka : ∀ i p, [(N, 2), (d.length, 4)][i]? = some p → wa.cell? ⟨w0.heap.size, i * 2, none⟩ = some (.int .i64 (p.1 : Nat)) ∧ wa.cell? ⟨w0.heap.size, i * 2 + 1, none⟩ = some (.int .i64 (p.2 : Nat)) := by
        rw [← hwa]
        intro i p hp
        match i, hp with
        | 0, hp => cases hp; exact ⟨by simp [go_sem], by simp [go_sem]⟩
        | 1, hp => cases hp; exact ⟨by simp [go_sem], by simp [go_sem]⟩
        | i + 2, hp => simp at hp
      have HWR := Lib.hid (fwritten_any [(N, 2), (d.length, 4)] w0.heap.size 2 wa hga (by intro p hp; simp at hp; rcases hp with rfl | rfl <;> simp <;> omega) (by simp) (by intro h; have := congrArg List.length h; simp [M.wrN, M.be_length] at this) hka)
      rw [H6.out] at HWR
      try rw [hwa]
      clear hwa hka
      refine wpAnyH_ready (rs := [10]) (by kernel_rfl) (by simp) ?_
      refine AllReadyH.cons rfl (fun K hK => ?_) AllReadyH.nil
      go_simp
      refine HWR.out.mono ?_
      rintro e w3 ⟨rfl, hb3⟩
      have hS3 : Below w0.heap.size w0 w3 := hSa.trans (hb3.mono hSa.size)
      try go_wp2_with fail
      refine hK.out _ _ hS3 (fun _ => ?_)
      clear hK K
      simp only [List.setIfInBounds_toArray, List.set_cons_zero, List.set_cons_succ]
      refine wpAnyH_take (i := 11) (v := .string ⟨(i ++ r6).toArray⟩) rfl (by kernel_rfl) (by kernel_rfl) (by kernel_rfl) (fun _ _ _ h => h) (Or.inl ⟨by rfl, ?_⟩) hS3 ?_
      · intro Y hY
        skip
        go_simp
        try rw [if_neg (by omega)]
        try rw [cat_eq]
        try simp only [List.append_assoc]
      simp only [Act.put, List.getElem_toArray, List.getElem_cons_succ, List.getElem_cons_zero, List.setIfInBounds_toArray, List.set_cons_zero, List.set_cons_succ]
      refine wpAnyH_take (i := 12) (v := .string ⟨(i ++ r6).toArray⟩) rfl (by kernel_rfl) (by kernel_rfl) (by kernel_rfl) (fun _ _ _ h => h) (Or.inl ⟨by rfl, ?_⟩) hS3 ?_
      · intro Y hY
        skip
        go_simp
      simp only [Act.put, List.getElem_toArray, List.getElem_cons_succ, List.getElem_cons_zero, List.setIfInBounds_toArray, List.set_cons_zero, List.set_cons_succ]
      refine wpAnyH_done (by kernel_rfl) ?_ _
      go_wp2_with fail
      refine wp_region_held (S := fun Y => Below w0.heap.size w0 Y) mixed ?_
      have hT0 : Below w0.heap.size w0 w3.drew := hS3.drew
      rw [show Array.replicate (Array.size _) false = #[false, false, false, false, false, false, false, false, false, false, false] from rfl, show Array.size (α := Oper) _ = 11 from rfl]
      refine wpAnyH_take (i := 0) (v := .string ⟨(i ++ r6).toArray⟩) rfl (by kernel_rfl) (by kernel_rfl) (by kernel_rfl) (fun _ _ _ h => h) (Or.inl ⟨by rfl, ?_⟩) hT0 ?_
      · intro Y hY
        skip
        go_simp
      simp only [Act.put, List.getElem_toArray, List.getElem_cons_zero, List.setIfInBounds_toArray, List.set_cons_zero, List.set_cons_succ]
      refine wpAnyH_take (i := 1) (v := .pointer (some ⟨w.heap.size, 2, none⟩)) rfl (by kernel_rfl) (by kernel_rfl) (by kernel_rfl) (fun _ _ _ h => h) (Or.inl ⟨by rfl, ?_⟩) hT0 ?_
      · intro Y hY
        skip
        go_simp
      simp only [Act.put, List.getElem_toArray, List.getElem_cons_succ, List.getElem_cons_zero, List.setIfInBounds_toArray, List.set_cons_zero, List.set_cons_succ]
      refine wpAnyH_take (i := 2) (v := .string ⟨d.toArray⟩) rfl (by kernel_rfl) (by kernel_rfl) (by kernel_rfl) (fun _ _ _ h => h) (Or.inl ⟨by rfl, ?_⟩) hT0 ?_
      · intro Y hY
        obtain ⟨c0, c1, c2, c3⟩ := HX.out _ hY
        go_simp
      simp only [Act.put, List.getElem_toArray, List.getElem_cons_succ, List.getElem_cons_zero, List.setIfInBounds_toArray, List.set_cons_zero, List.set_cons_succ]
      refine wpAnyH_take (i := 3) (v := .string ⟨(i ++ (r6 ++ d)).toArray⟩) rfl (by kernel_rfl) (by kernel_rfl) (by kernel_rfl) (fun _ _ _ h => h) (Or.inl ⟨by rfl, ?_⟩) hT0 ?_
      · intro Y hY
        skip
        go_simp
        try rw [if_neg (by omega)]
        try rw [cat_eq]
        try simp only [List.append_assoc]
      simp only [Act.put, List.getElem_toArray, List.getElem_cons_succ, List.getElem_cons_zero, List.setIfInBounds_toArray, List.set_cons_zero, List.set_cons_succ]
      refine wpAnyH_take (i := 4) (v := .int .i64 0) rfl (by kernel_rfl) (by kernel_rfl) (by kernel_rfl) (fun _ _ _ h => h) (Or.inl ⟨by rfl, ?_⟩) hT0 ?_
      · intro Y hY
        skip
        go_simp
      simp only [Act.put, List.getElem_toArray, List.getElem_cons_succ, List.getElem_cons_zero, List.setIfInBounds_toArray, List.set_cons_zero, List.set_cons_succ]
      refine wpAnyH_take (i := 5) (v := .agg #[.int .i64 0, .int .i64 1]) rfl (by kernel_rfl) (by kernel_rfl) (by kernel_rfl) (fun _ _ _ h => h) (Or.inl ⟨by rfl, ?_⟩) hT0 ?_
      · intro Y hY
        skip
        go_simp
      simp only [Act.put, List.getElem_toArray, List.getElem_cons_succ, List.getElem_cons_zero, List.setIfInBounds_toArray, List.set_cons_zero, List.set_cons_succ]
      refine wpAnyH_ready (rs := [6]) (by kernel_rfl) (by simp) ?_
      refine AllReadyH.cons rfl (fun K hK => ?_) AllReadyH.nil
      go_simp
      refine hK.out _ _ (hT0.alloc hT0.size _) (fun _ => ?_)
      clear hK K
      simp only [List.setIfInBounds_toArray, List.set_cons_zero, List.set_cons_succ]
      obtain ⟨wc, hwc⟩ : ∃ wc, (w3.alloc (.cells #[.int .i64 0, .int .i64 1] 42)).drew = wc := ⟨_, rfl⟩
      have hSc : Below w0.heap.size w0 wc := by rw [← hwc]; exact (hS3.alloc hS3.size _).drew
      have hgc : w3.heap.size < wc.heap.size := by rw [← hwc]; simp
      have hkc : ∀ i p, [(0, 1)][i]? = some p → wc.cell? ⟨w3.heap.size, i * 2, none⟩ = some (.int .i64 (p.1 : Nat)) ∧ wc.cell? ⟨w3.heap.size, i * 2 + 1, none⟩ = some (.int .i64 (p.2 : Nat)) := by
        rw [← hwc]
        intro i p hp
        match i, hp with
        | 0, hp => cases hp; exact ⟨by simp [go_sem], by simp [go_sem]⟩
        | i + 1, hp => simp at hp
      have HWR := Lib.hid (fwritten_any [(0, 1)] w3.heap.size 1 wc hgc (by intro p hp; simp at hp; subst hp; simp) (by simp) (by intro h; have := congrArg List.length h; simp [M.wrN, M.be_length] at this) hkc)
      rw [H1.out] at HWR
      try rw [hwc]
      clear hwc hkc
      refine wpAnyH_ready (rs := [7]) (by kernel_rfl) (by simp) ?_
      refine AllReadyH.cons rfl (fun K hK => ?_) AllReadyH.nil
      go_simp
      refine HWR.out.mono ?_
      rintro e w5 ⟨rfl, hb5⟩
      have hS5 : Below w0.heap.size w0 w5 := hSc.trans (hb5.mono hSc.size)
      try go_wp2_with fail
      refine hK.out _ _ hS5 (fun _ => ?_)
      clear hK K
      simp only [List.setIfInBounds_toArray, List.set_cons_zero, List.set_cons_succ]
      refine wpAnyH_take (i := 8) (v := .string ⟨(i ++ (r6 ++ (d ++ r1))).toArray⟩) rfl (by kernel_rfl) (by kernel_rfl) (by kernel_rfl) (fun _ _ _ h => h) (Or.inl ⟨by rfl, ?_⟩) hS5 ?_
      · intro Y hY
        skip
        go_simp
        try rw [if_neg (by omega)]
        try rw [cat_eq]
        try simp only [List.append_assoc]
      simp only [Act.put, List.getElem_toArray, List.getElem_cons_succ, List.getElem_cons_zero, List.setIfInBounds_toArray, List.set_cons_zero, List.set_cons_succ]
      refine wpAnyH_take (i := 9) (v := .string ⟨(i ++ (r6 ++ (d ++ r1))).toArray⟩) rfl (by kernel_rfl) (by kernel_rfl) (by kernel_rfl) (fun _ _ _ h => h) (Or.inl ⟨by rfl, ?_⟩) hS5 ?_
      · intro Y hY
        skip
        go_simp
      simp only [Act.put, List.getElem_toArray, List.getElem_cons_succ, List.getElem_cons_zero, List.setIfInBounds_toArray, List.set_cons_zero, List.set_cons_succ]
      refine wpAnyH_take (i := 10) (v := .int .i64 0) rfl (by kernel_rfl) (by kernel_rfl) (by kernel_rfl) (fun _ _ _ h => h) (Or.inl ⟨by rfl, ?_⟩) hS5 ?_
      · intro Y hY
        skip
        go_simp
      simp only [Act.put, List.getElem_toArray, List.getElem_cons_succ, List.getElem_cons_zero, List.setIfInBounds_toArray, List.set_cons_zero, List.set_cons_succ]
      refine wpAnyH_done (by kernel_rfl) ?_ _
      go_wp2_with fail
      go_ret2
      exact ⟨rfl, HB1.out.trans (hS5.mono HB1.out.size)⟩
    · skip
      obtain ⟨r6, h6⟩ : ∃ r6, M.wrN [(N, 2), (d.length, 4)] = r6 := ⟨_, rfl⟩
      obtain ⟨r1, h7⟩ : ∃ r1, M.wrN [(1, 1)] = r1 := ⟨_, rfl⟩
      have l6 : r6.length = 6 := by rw [← h6]; simp [M.wrN, M.be_length]
      have l1 : r1.length = 1 := by rw [← h7]; simp [M.wrN, M.be_length]
      have HE : i14 i N d true = i ++ (r6 ++ (d ++ r1)) := by unfold i14; rw [h6, ← h7]; rfl
      rw [HE]
      have H6 := Lib.hid h6
      have H1 := Lib.hid h7
      clear h6 h7 HE
      go_enter Try.func11, Try.ntmps11
      go_wp2_with (rw [HW.out])
      refine (H.out _).mono ?_
      rintro e w0 ⟨rfl, hb1⟩
      have HX := Lib.hid (fun W (h : Below w0.heap.size w0 W) => (HX0.out.from_ hb1 HLT.out).from_ h (Nat.lt_of_lt_of_le HLT.out hb1.size))
      have HB1 := Lib.hid (HB.out.trans (hb1.mono HB.out.size))
      clear c0 c1 c2 c3 hb1 HX0 HB H HW
      obtain ⟨c0, c1, c2, c3⟩ := HX.out _ (Below.refl _ _)
      go_wp2_with fail
      clear c0 c1 c2 c3
      refine wp_region_held (S := fun Y => Below w0.heap.size w0 Y) mixed ?_
      have hS0 : Below w0.heap.size w0 w0.drew := (Below.refl _ _).drew
      rw [show Array.replicate (Array.size _) false = #[false, false, false, false, false, false, false, false, false, false, false, false, false] from rfl, show Array.size (α := Oper) _ = 13 from rfl]
      refine wpAnyH_take (i := 0) (v := .pointer (some ⟨w.heap.size, 0, none⟩)) rfl (by kernel_rfl) (by kernel_rfl) (by kernel_rfl) (fun _ _ _ h => h) (Or.inl ⟨by rfl, ?_⟩) hS0 ?_
      · intro Y hY
        skip
        go_simp
      simp only [Act.put, List.getElem_toArray, List.getElem_cons_zero, List.setIfInBounds_toArray, List.set_cons_zero, List.set_cons_succ]
      refine wpAnyH_take (i := 1) (v := .string ⟨i.toArray⟩) rfl (by kernel_rfl) (by kernel_rfl) (by kernel_rfl) (fun _ _ _ h => h) (Or.inl ⟨by rfl, ?_⟩) hS0 ?_
      · intro Y hY
        obtain ⟨c0, c1, c2, c3⟩ := HX.out _ hY
        go_simp
      simp only [Act.put, List.getElem_toArray, List.getElem_cons_succ, List.getElem_cons_zero, List.setIfInBounds_toArray, List.set_cons_zero, List.set_cons_succ]
      refine wpAnyH_take (i := 2) (v := .pointer (some ⟨w.heap.size, 1, none⟩)) rfl (by kernel_rfl) (by kernel_rfl) (by kernel_rfl) (fun _ _ _ h => h) (Or.inl ⟨by rfl, ?_⟩) hS0 ?_
      · intro Y hY
        skip
        go_simp
      simp only [Act.put, List.getElem_toArray, List.getElem_cons_succ, List.getElem_cons_zero, List.setIfInBounds_toArray, List.set_cons_zero, List.set_cons_succ]
      refine wpAnyH_take (i := 3) (v := .int .i64 (N : Nat)) rfl (by kernel_rfl) (by kernel_rfl) (by kernel_rfl) (fun _ _ _ h => h) (Or.inl ⟨by rfl, ?_⟩) hS0 ?_
      · intro Y hY
        obtain ⟨c0, c1, c2, c3⟩ := HX.out _ hY
        go_simp
      simp only [Act.put, List.getElem_toArray, List.getElem_cons_succ, List.getElem_cons_zero, List.setIfInBounds_toArray, List.set_cons_zero, List.set_cons_succ]
      refine wpAnyH_take (i := 4) (v := .agg #[.int .i64 (N : Nat), .int .i64 2]) rfl (by kernel_rfl) (by kernel_rfl) (by kernel_rfl) (fun _ _ _ h => h) (Or.inl ⟨by rfl, ?_⟩) hS0 ?_
      · intro Y hY
        skip
        go_simp
      simp only [Act.put, List.getElem_toArray, List.getElem_cons_succ, List.getElem_cons_zero, List.setIfInBounds_toArray, List.set_cons_zero, List.set_cons_succ]
      refine wpAnyH_take (i := 5) (v := .pointer (some ⟨w.heap.size, 2, none⟩)) rfl (by kernel_rfl) (by kernel_rfl) (by kernel_rfl) (fun _ _ _ h => h) (Or.inl ⟨by rfl, ?_⟩) hS0 ?_
      · intro Y hY
        skip
        go_simp
      simp only [Act.put, List.getElem_toArray, List.getElem_cons_succ, List.getElem_cons_zero, List.setIfInBounds_toArray, List.set_cons_zero, List.set_cons_succ]
      refine wpAnyH_take (i := 6) (v := .string ⟨d.toArray⟩) rfl (by kernel_rfl) (by kernel_rfl) (by kernel_rfl) (fun _ _ _ h => h) (Or.inl ⟨by rfl, ?_⟩) hS0 ?_
      · intro Y hY
        obtain ⟨c0, c1, c2, c3⟩ := HX.out _ hY
        go_simp
      simp only [Act.put, List.getElem_toArray, List.getElem_cons_succ, List.getElem_cons_zero, List.setIfInBounds_toArray, List.set_cons_zero, List.set_cons_succ]
      refine wpAnyH_take (i := 7) (v := .int .i64 (d.length : Nat)) rfl (by kernel_rfl) (by kernel_rfl) (by kernel_rfl) (fun _ _ _ h => h) (Or.inl ⟨by rfl, ?_⟩) hS0 ?_
      · intro Y hY
        skip
        go_simp
      simp only [Act.put, List.getElem_toArray, List.getElem_cons_succ, List.getElem_cons_zero, List.setIfInBounds_toArray, List.set_cons_zero, List.set_cons_succ]
      refine wpAnyH_take (i := 8) (v := .agg #[.int .i64 (d.length : Nat), .int .i64 4]) rfl (by kernel_rfl) (by kernel_rfl) (by kernel_rfl) (fun _ _ _ h => h) (Or.inl ⟨by rfl, ?_⟩) hS0 ?_
      · intro Y hY
        skip
        go_simp
      simp only [Act.put, List.getElem_toArray, List.getElem_cons_succ, List.getElem_cons_zero, List.setIfInBounds_toArray, List.set_cons_zero, List.set_cons_succ]
      refine wpAnyH_ready (rs := [9]) (by kernel_rfl) (by simp) ?_
      refine AllReadyH.cons rfl (fun K hK => ?_) AllReadyH.nil
      go_simp
      refine hK.out _ _ (hS0.alloc (Nat.le_refl _) _) (fun _ => ?_)
      clear hK K
      simp only [List.setIfInBounds_toArray, List.set_cons_zero, List.set_cons_succ]
      obtain ⟨wa, hwa⟩ : ∃ wa, (w0.alloc (.cells #[.int .i64 (N : Nat), .int .i64 2, .int .i64 (d.length : Nat), .int .i64 4] 42)).drew = wa := ⟨_, rfl⟩
      have hSa : Below w0.heap.size w0 wa := by rw [← hwa]; exact ((Below.refl _ _).alloc (Nat.le_refl _) _).drew
      have hga : w0.heap.size < wa.heap.size := by rw [← hwa]; simp
      have hka : ∀ i p, [(N, 2), (d.length, 4)][i]? = some p → wa.cell? ⟨w0.heap.size, i * 2, none⟩ = some (.int .i64 (p.1 : Nat)) ∧ wa.cell? ⟨w0.heap.size, i * 2 + 1, none⟩ = some (.int .i64 (p.2 : Nat)) := by
        rw [← hwa]
        intro i p hp
        match i, hp with
        | 0, hp => cases hp; exact ⟨by simp [go_sem], by simp [go_sem]⟩
        | 1, hp => cases hp; exact ⟨by simp [go_sem], by simp [go_sem]⟩
        | i + 2, hp => simp at hp
      have HWR := Lib.hid (fwritten_any [(N, 2), (d.length, 4)] w0.heap.size 2 wa hga (by intro p hp; simp at hp; rcases hp with rfl | rfl <;> simp <;> omega) (by simp) (by intro h; have := congrArg List.length h; simp [M.wrN, M.be_length] at this) hka)
      rw [H6.out] at HWR
      try rw [hwa]
      clear hwa hka
      refine wpAnyH_ready (rs := [10]) (by kernel_rfl) (by simp) ?_
      refine AllReadyH.cons rfl (fun K hK => ?_) AllReadyH.nil
      go_simp
      refine HWR.out.mono ?_
      rintro e w3 ⟨rfl, hb3⟩
      have hS3 : Below w0.heap.size w0 w3 := hSa.trans (hb3.mono hSa.size)
      try go_wp2_with fail
      refine hK.out _ _ hS3 (fun _ => ?_)
      clear hK K
      simp only [List.setIfInBounds_toArray, List.set_cons_zero, List.set_cons_succ]
      refine wpAnyH_take (i := 11) (v := .string ⟨(i ++ r6).toArray⟩) rfl (by kernel_rfl) (by kernel_rfl) (by kernel_rfl) (fun _ _ _ h => h) (Or.inl ⟨by rfl, ?_⟩) hS3 ?_
      · intro Y hY
        skip
        go_simp
        try rw [if_neg (by omega)]
        try rw [cat_eq]
        try simp only [List.append_assoc]
      simp only [Act.put, List.getElem_toArray, List.getElem_cons_succ, List.getElem_cons_zero, List.setIfInBounds_toArray, List.set_cons_zero, List.set_cons_succ]
      refine wpAnyH_take (i := 12) (v := .string ⟨(i ++ r6).toArray⟩) rfl (by kernel_rfl) (by kernel_rfl) (by kernel_rfl) (fun _ _ _ h => h) (Or.inl ⟨by rfl, ?_⟩) hS3 ?_
      · intro Y hY
        skip
        go_simp
      simp only [Act.put, List.getElem_toArray, List.getElem_cons_succ, List.getElem_cons_zero, List.setIfInBounds_toArray, List.set_cons_zero, List.set_cons_succ]
      refine wpAnyH_done (by kernel_rfl) ?_ _
      go_wp2_with fail
      refine wp_region_held (S := fun Y => Below w0.heap.size w0 Y) mixed ?_
      have hT0 : Below w0.heap.size w0 w3.drew := hS3.drew
      rw [show Array.replicate (Array.size _) false = #[false, false, false, false, false, false, false, false, false, false, false] from rfl, show Array.size (α := Oper) _ = 11 from rfl]
      refine wpAnyH_take (i := 0) (v := .string ⟨(i ++ r6).toArray⟩) rfl (by kernel_rfl) (by kernel_rfl) (by kernel_rfl) (fun _ _ _ h => h) (Or.inl ⟨by rfl, ?_⟩) hT0 ?_
      · intro Y hY
        skip
        go_simp
      simp only [Act.put, List.getElem_toArray, List.getElem_cons_zero, List.setIfInBounds_toArray, List.set_cons_zero, List.set_cons_succ]
      refine wpAnyH_take (i := 1) (v := .pointer (some ⟨w.heap.size, 2, none⟩)) rfl (by kernel_rfl) (by kernel_rfl) (by kernel_rfl) (fun _ _ _ h => h) (Or.inl ⟨by rfl, ?_⟩) hT0 ?_
      · intro Y hY
        skip
        go_simp
      simp only [Act.put, List.getElem_toArray, List.getElem_cons_succ, List.getElem_cons_zero, List.setIfInBounds_toArray, List.set_cons_zero, List.set_cons_succ]
      refine wpAnyH_take (i := 2) (v := .string ⟨d.toArray⟩) rfl (by kernel_rfl) (by kernel_rfl) (by kernel_rfl) (fun _ _ _ h => h) (Or.inl ⟨by rfl, ?_⟩) hT0 ?_
      · intro Y hY
        obtain ⟨c0, c1, c2, c3⟩ := HX.out _ hY
        go_simp
      simp only [Act.put, List.getElem_toArray, List.getElem_cons_succ, List.getElem_cons_zero, List.setIfInBounds_toArray, List.set_cons_zero, List.set_cons_succ]
      refine wpAnyH_take (i := 3) (v := .string ⟨(i ++ (r6 ++ d)).toArray⟩) rfl (by kernel_rfl) (by kernel_rfl) (by kernel_rfl) (fun _ _ _ h => h) (Or.inl ⟨by rfl, ?_⟩) hT0 ?_
      · intro Y hY
        skip
        go_simp
        try rw [if_neg (by omega)]
        try rw [cat_eq]
        try simp only [List.append_assoc]
      simp only [Act.put, List.getElem_toArray, List.getElem_cons_succ, List.getElem_cons_zero, List.setIfInBounds_toArray, List.set_cons_zero, List.set_cons_succ]
      refine wpAnyH_take (i := 4) (v := .int .i64 1) rfl (by kernel_rfl) (by kernel_rfl) (by kernel_rfl) (fun _ _ _ h => h) (Or.inl ⟨by rfl, ?_⟩) hT0 ?_
      · intro Y hY
        skip
        go_simp
      simp only [Act.put, List.getElem_toArray, List.getElem_cons_succ, List.getElem_cons_zero, List.setIfInBounds_toArray, List.set_cons_zero, List.set_cons_succ]
      refine wpAnyH_take (i := 5) (v := .agg #[.int .i64 1, .int .i64 1]) rfl (by kernel_rfl) (by kernel_rfl) (by kernel_rfl) (fun _ _ _ h => h) (Or.inl ⟨by rfl, ?_⟩) hT0 ?_
      · intro Y hY
        skip
        go_simp
      simp only [Act.put, List.getElem_toArray, List.getElem_cons_succ, List.getElem_cons_zero, List.setIfInBounds_toArray, List.set_cons_zero, List.set_cons_succ]
      refine wpAnyH_ready (rs := [6]) (by kernel_rfl) (by simp) ?_
      refine AllReadyH.cons rfl (fun K hK => ?_) AllReadyH.nil
      go_simp
      refine hK.out _ _ (hT0.alloc hT0.size _) (fun _ => ?_)
      clear hK K
      simp only [List.setIfInBounds_toArray, List.set_cons_zero, List.set_cons_succ]
      obtain ⟨wc, hwc⟩ : ∃ wc, (w3.alloc (.cells #[.int .i64 1, .int .i64 1] 42)).drew = wc := ⟨_, rfl⟩
      have hSc : Below w0.heap.size w0 wc := by rw [← hwc]; exact (hS3.alloc hS3.size _).drew
      have hgc : w3.heap.size < wc.heap.size := by rw [← hwc]; simp
      have hkc : ∀ i p, [(1, 1)][i]? = some p → wc.cell? ⟨w3.heap.size, i * 2, none⟩ = some (.int .i64 (p.1 : Nat)) ∧ wc.cell? ⟨w3.heap.size, i * 2 + 1, none⟩ = some (.int .i64 (p.2 : Nat)) := by
        rw [← hwc]
        intro i p hp
        match i, hp with
        | 0, hp => cases hp; exact ⟨by simp [go_sem], by simp [go_sem]⟩
        | i + 1, hp => simp at hp
      have HWR := Lib.hid (fwritten_any [(1, 1)] w3.heap.size 1 wc hgc (by intro p hp; simp at hp; subst hp; simp) (by simp) (by intro h; have := congrArg List.length h; simp [M.wrN, M.be_length] at this) hkc)
      rw [H1.out] at HWR
      try rw [hwc]
      clear hwc hkc
      refine wpAnyH_ready (rs := [7]) (by kernel_rfl) (by simp) ?_
      refine AllReadyH.cons rfl (fun K hK => ?_) AllReadyH.nil
      go_simp
      refine HWR.out.mono ?_
      rintro e w5 ⟨rfl, hb5⟩
      have hS5 : Below w0.heap.size w0 w5 := hSc.trans (hb5.mono hSc.size)
      try go_wp2_with fail
      refine hK.out _ _ hS5 (fun _ => ?_)
      clear hK K
      simp only [List.setIfInBounds_toArray, List.set_cons_zero, List.set_cons_succ]
      refine wpAnyH_take (i := 8) (v := .string ⟨(i ++ (r6 ++ (d ++ r1))).toArray⟩) rfl (by kernel_rfl) (by kernel_rfl) (by kernel_rfl) (fun _ _ _ h => h) (Or.inl ⟨by rfl, ?_⟩) hS5 ?_
      · intro Y hY
        skip
        go_simp
        try rw [if_neg (by omega)]
        try rw [cat_eq]
        try simp only [List.append_assoc]
      simp only [Act.put, List.getElem_toArray, List.getElem_cons_succ, List.getElem_cons_zero, List.setIfInBounds_toArray, List.set_cons_zero, List.set_cons_succ]
      refine wpAnyH_take (i := 9) (v := .string ⟨(i ++ (r6 ++ (d ++ r1))).toArray⟩) rfl (by kernel_rfl) (by kernel_rfl) (by kernel_rfl) (fun _ _ _ h => h) (Or.inl ⟨by rfl, ?_⟩) hS5 ?_
      · intro Y hY
        skip
        go_simp
      simp only [Act.put, List.getElem_toArray, List.getElem_cons_succ, List.getElem_cons_zero, List.setIfInBounds_toArray, List.set_cons_zero, List.set_cons_succ]
      refine wpAnyH_take (i := 10) (v := .int .i64 0) rfl (by kernel_rfl) (by kernel_rfl) (by kernel_rfl) (fun _ _ _ h => h) (Or.inl ⟨by rfl, ?_⟩) hS5 ?_
      · intro Y hY
        skip
        go_simp
      simp only [Act.put, List.getElem_toArray, List.getElem_cons_succ, List.getElem_cons_zero, List.setIfInBounds_toArray, List.set_cons_zero, List.set_cons_succ]
      refine wpAnyH_done (by kernel_rfl) ?_ _
      go_wp2_with fail
      go_ret2
      exact ⟨rfl, HB1.out.trans (hS5.mono HB1.out.size)⟩
  · rw [if_neg hk]
    have hk' : ¬ ((M.chkF f : Nat) : Int) = 0 := by omega
    generalize M.chkF f = k at *
    go_enter Try.func11, Try.ntmps11
    go_wp2_with (rw [HW.out])
    refine (H.out _).mono ?_
    rintro e w1 ⟨rfl, hb1⟩
    go_wp2_with fail
    go_ret2
    exact ⟨rfl, HB.out.trans (hb1.mono HB.out.size)⟩
end Go.Proofs.Ytgeeoefcepjniaa
