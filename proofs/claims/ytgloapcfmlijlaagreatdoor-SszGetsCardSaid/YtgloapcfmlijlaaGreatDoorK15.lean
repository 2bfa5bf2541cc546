/- The landed package ssz: how many items a list's bytes are. slices.IsSorted of whole numbers. The landed package ssz: cut, its rows of whole numbers, and what stands between two rounds of its first loop. Plain: what stands between two rounds of the loops that cut a row. -/
import Derived.Test.YtgloapcfmlijlaaGreatDoorK14
import Derived.Test.YtgloapcfmlijlaaGreatDoorK12
import Derived.Test.YtgloapcfmlijlaaGreatDoorK13
namespace Go.Proofs.YtgloapcfmlijlaaGreatDoor
open Go Go.RowKit Go.Lib

theorem ext_take (s : List UInt8) (k : Nat) : (⟨s.toArray⟩ : ByteArray).extract 0 k = ⟨(s.take k).toArray⟩ := by
  apply ByteArray.ext
  simp

/-- How many items there are; what is wrong. -/
def itE (f : Bool) (wd : Nat) (n : Int) (s : List UInt8) : Nat × Nat :=
  if s = [] then (0, 0) else if f = true then (if s.length % wd ≠ 0 then (0, 2) else if n < ((s.length / wd : Nat) : Int) then (0, 5) else (s.length / wd, 0))
  else if s.length < 4 ∨ M.led (s.take 4) % wd ≠ 0 ∨ M.led (s.take 4) = 0 then (0, 2) else if n < ((M.led (s.take 4) / wd : Nat) : Int) then (0, 5) else (M.led (s.take 4) / wd, 0)
theorem itE_many {t : M.Ty} (h : M.chkT 0 t = 0) (n : Int) (s : List UInt8) : M.manyT 4 n [M.kindOf t] s = itE (M.fixedT t) (wdT t) n s := by
  have hk := kdT_chk h
  unfold M.manyT itE
  rw [if_neg (by decide), if_neg (by decide), ← hk]
  by_cases hs : s = []
  · rw [if_pos hs, if_pos hs]
  · rw [if_neg hs, if_neg hs]
    unfold kdT wdT
    cases hf : M.fixedT t with
    | true => rfl
    | false => rfl
/-- What comes of it. -/
def ItP (w : World) (r : Nat × Nat) (e : Ending) (w' : World) : Prop := (r.2 = 0 → e = .returned (.int .i64 (r.1 : Nat))) ∧ (r.2 ≠ 0 → e = pan r.2) ∧ Below w.heap.size w w'

set_option maxRecDepth 100000 in
set_option maxHeartbeats 4000000 in
theorem itemsOf_any (n : Int) (t : M.Ty) (a : Option Addr) (cap : Nat) (s : List UInt8) (w : World) (hL : LayT w w.heap.size [t] (.slice a 1 cap)) (hc : M.cntT t ≤ 999) (hz : wdT t ≠ 0) (h : s.length ≤ 8000) :
    Calls Tryz.prog 70 #[tv 4 n (.slice a 1 cap), .string ⟨s.toArray⟩] w (ItP w (itE (M.fixedT t) (wdT t) n s)) := by
  obtain ⟨b, o, k', m', us, ua, uc, rfl, hbn, ht, c0, c1, c2, hLt⟩ := hL.at_ (i := 0) (by simp)
  obtain rfl : t = .mk k' m' us := by simpa using ht
  simp only [Nat.zero_mul, Nat.add_zero] at c0 c1 c2
  by_cases hs : s = []
  · subst hs
    rw [show itE (M.fixedT (.mk k' m' us)) (wdT (.mk k' m' us)) n [] = (0, 0) from rfl]
    go_enter Tryz.func70, Tryz.ntmps70
    go_wp2_with fail
    go_ret
    exact ⟨fun _ => rfl, fun h => absurd rfl h, (Below.refl _ _).alloc (Nat.le_refl _) _⟩
  · obtain ⟨w0, hw0⟩ : ∃ w0, w.alloc (.cells #[.int .i64 4, .int .i64 n, .slice (some ⟨b, o, none⟩) 1 cap] 24) = w0 := ⟨_, rfl⟩
    have hb0 : Below w.heap.size w w0 := by rw [← hw0]; exact (Below.refl _ _).alloc (Nat.le_refl _) _
    have hz0 : w.heap.size < w0.heap.size := by rw [← hw0]; simp
    have hB0 : BoxT w0 w.heap.size 4 n (.slice (some ⟨b, o, none⟩) 1 cap) := by rw [← hw0]; exact ⟨by simp [go_sem], by simp [go_sem], by simp [go_sem]⟩
    have HP := Lib.hid (partOf_any k' m' us ua uc w0 ((hLt.from_ hb0).mono hb0.size) (by omega))
    have d0 := (hb0.cell (p := ⟨b, o, none⟩) hbn).trans c0
    have d1 := (hb0.cell (p := ⟨b, o + 1, none⟩) hbn).trans c1
    have d2 := (hb0.cell (p := ⟨b, o + 2, none⟩) hbn).trans c2
    have t0 := hB0.c0
    have t1 := hB0.c1
    have t2 := hB0.c2
    have he : s.isEmpty = false := by cases s with | nil => exact absurd rfl hs | cons _ _ => rfl
    obtain ⟨f, hf⟩ : ∃ f, M.fixedT (.mk k' m' us) = f := ⟨_, rfl⟩
    obtain ⟨wd, hwd⟩ : ∃ wd, wdT (.mk k' m' us) = wd := ⟨_, rfl⟩
    rw [hf, hwd] at HP ⊢
    rw [hwd] at hz
    obtain ⟨T, hT⟩ : ∃ T, itE f wd n s = T := ⟨_, rfl⟩
    rw [hT]
    have HT := Lib.hid hT
    have HW := Lib.hid hw0
    rw [← HW.out] at t0 t1 t2 d0 d1 d2
    clear hT hf hwd hw0 hL hLt ht c0 c1 c2 hc
    go_enter Tryz.func70, Tryz.ntmps70
    go_wp2_with fail
    rw [HW.out]
    refine HP.out.mono ?_
    rintro e w1 ⟨rfl, hb1⟩
    have hbw1 := hb0.trans (hb1.mono hb0.size)
    have u1 := (hb1.cell (p := ⟨w.heap.size, 1, none⟩) hz0).trans hB0.c1
    clear t0 t1 t2 d0 d1 d2 HP
    have mixed : Tryz.prog.follows .mixedOrders = true := by kernel_rfl
    cases f with
    | true =>
      obtain ⟨w2, hw2⟩ : ∃ w2, w1.alloc (.cells #[.int .i64 k', .int .i64 m', .slice ua us.length uc, .bool true, .int .i64 (wd : Nat)] 56) = w2 := ⟨_, rfl⟩
      have hb2 : Below w1.heap.size w1 w2 := by rw [← hw2]; exact (Below.refl _ _).alloc (Nat.le_refl _) _
      have hbw2 := hbw1.trans (hb2.mono hbw1.size)
      have hz1 : w.heap.size < w1.heap.size := Nat.lt_of_lt_of_le hz0 hb1.size
      have hz2 : w1.heap.size < w2.heap.size := by rw [← hw2]; simp
      have hz3 : w.heap.size < w2.heap.size := Nat.lt_trans hz1 hz2
      have hn2 : w2.heap[w1.heap.size]? = some (.cells #[.int .i64 k', .int .i64 m', .slice ua us.length uc, .bool true, .int .i64 (wd : Nat)] 56 (0, 0)) := by rw [← hw2]; exact World.alloc_heap_new _ _
      have v1 := (hb2.cell (p := ⟨w.heap.size, 1, none⟩) hz1).trans u1
      have v2 : w2.cell? ⟨w1.heap.size, 4, none⟩ = some (.int .i64 (wd : Nat)) := by simp [World.cell?, hn2]
      have HW2 := Lib.hid hw2
      clear hn2 hw2
      obtain ⟨q, hq⟩ : ∃ q, s.length = q := ⟨_, rfl⟩
      have HQ := Lib.hid hq
      have hq9 : q ≤ 8000 := by omega
      have hdl : q / wd ≤ 8000 := Nat.le_trans (Nat.div_le_self _ _) hq9
      have HEM : Hid ((q : Int) % (wd : Int) = ((q % wd : Nat) : Int)) := (Int.natCast_emod q wd).symm
      have HDV : Hid ((q : Int) / (wd : Int) = ((q / wd : Nat) : Int)) := (Int.natCast_ediv q wd).symm
      have hwd0 : ¬ (wd : Int) = 0 := by omega
      have hwq : IntKind.i64.wrap ((q : Int) / wd) = (q : Int) / wd := by
        rw [HDV.out]
        generalize q / wd = d at hdl ⊢
        rw [IntKind.wrap_i64]
        omega
      have hd0 : (0 : Int) ≤ (q : Int) / wd := by rw [HDV.out]; exact Int.natCast_nonneg _
      have hd1 : (q : Int) / wd ≤ 8000 := by rw [HDV.out]; exact Int.ofNat_le.2 hdl
      go_wp2_with fail
      rw [HW2.out]
      refine (need_any ((q : Int) % (wd : Int) == 0) 2 _).mono ?_
      rintro e X ⟨rfl, hX⟩
      obtain rfl : w2 = X := hX.symm
      by_cases hr : q % wd = 0
      case neg =>
        rw [if_neg (by rw [HEM.out]; simp; omega)]
        obtain rfl : T = (0, 2) := by rw [← HT.out]; unfold itE; rw [if_neg hs, if_pos rfl, HQ.out, if_pos hr]
        exact ⟨rfl, fun h => by simp at h, fun _ => rfl, hbw2⟩
      rw [if_pos (by rw [HEM.out, hr]; rfl)]
      go_wp2_with fail
      refine wp_region_held (S := fun Y => Below w2.heap.size w2 Y) mixed ?_
      have hS0 : (fun Y => Below w2.heap.size w2 Y) { w2 with drawn := w2.drawn + 1 } := Below.drew (Below.refl _ _)
      rw [show Array.replicate (Array.size _) false = #[false, false, false, false, false, false, false, false] from rfl, show Array.size (α := Oper) _ = 8 from rfl]
      refine wpAnyH_take (i := 0) (v := .int .i64 (q : Nat)) rfl (by kernel_rfl) (by kernel_rfl) (by kernel_rfl) (fun _ _ _ h => h) (Or.inl ⟨by rfl, ?_⟩) hS0 ?_
      · intro Y hY
        skip
        go_simp
      simp only [Act.put, List.getElem_toArray, List.getElem_cons_zero, List.setIfInBounds_toArray, List.set_cons_zero, List.set_cons_succ]
      refine wpAnyH_take (i := 1) (v := .pointer (some ⟨w1.heap.size, 4, none⟩)) rfl (by kernel_rfl) (by kernel_rfl) (by kernel_rfl) (fun _ _ _ h => h) (Or.inl ⟨by rfl, ?_⟩) hS0 ?_
      · intro Y hY
        skip
        go_simp
      simp only [Act.put, List.getElem_toArray, List.getElem_cons_succ, List.getElem_cons_zero, List.setIfInBounds_toArray, List.set_cons_zero, List.set_cons_succ]
      refine wpAnyH_take (i := 2) (v := .int .i64 (wd : Nat)) rfl (by kernel_rfl) (by kernel_rfl) (by kernel_rfl) (fun _ _ _ h => h) (Or.inl ⟨by rfl, ?_⟩) hS0 ?_
      · intro Y hY
        have e4 := (hY.cell (p := ⟨w1.heap.size, 4, none⟩) hz2).trans v2
        go_simp
      simp only [Act.put, List.getElem_toArray, List.getElem_cons_succ, List.getElem_cons_zero, List.setIfInBounds_toArray, List.set_cons_zero, List.set_cons_succ]
      refine wpAnyH_take (i := 3) (v := .int .i64 ((q : Int) / wd)) rfl (by kernel_rfl) (by kernel_rfl) (by kernel_rfl) (fun _ _ _ h => h) (Or.inl ⟨by rfl, ?_⟩) hS0 ?_
      · intro Y hY
        skip
        go_simp
        try exact hwq
      simp only [Act.put, List.getElem_toArray, List.getElem_cons_succ, List.getElem_cons_zero, List.setIfInBounds_toArray, List.set_cons_zero, List.set_cons_succ]
      refine wpAnyH_take (i := 4) (v := .pointer (some ⟨w.heap.size, 1, none⟩)) rfl (by kernel_rfl) (by kernel_rfl) (by kernel_rfl) (fun _ _ _ h => h) (Or.inl ⟨by rfl, ?_⟩) hS0 ?_
      · intro Y hY
        skip
        go_simp
      simp only [Act.put, List.getElem_toArray, List.getElem_cons_succ, List.getElem_cons_zero, List.setIfInBounds_toArray, List.set_cons_zero, List.set_cons_succ]
      refine wpAnyH_take (i := 5) (v := .int .i64 n) rfl (by kernel_rfl) (by kernel_rfl) (by kernel_rfl) (fun _ _ _ h => h) (Or.inl ⟨by rfl, ?_⟩) hS0 ?_
      · intro Y hY
        have e1 := (hY.cell (p := ⟨w.heap.size, 1, none⟩) hz3).trans v1
        go_simp
      simp only [Act.put, List.getElem_toArray, List.getElem_cons_succ, List.getElem_cons_zero, List.setIfInBounds_toArray, List.set_cons_zero, List.set_cons_succ]
      refine wpAnyH_take (i := 6) (v := .bool (decide ((q : Int) / wd ≤ n))) rfl (by kernel_rfl) (by kernel_rfl) (by kernel_rfl) (fun _ _ _ h => h) (Or.inl ⟨by rfl, ?_⟩) hS0 ?_
      · intro Y hY
        skip
        go_simp
      simp only [Act.put, List.getElem_toArray, List.getElem_cons_succ, List.getElem_cons_zero, List.setIfInBounds_toArray, List.set_cons_zero, List.set_cons_succ]
      refine wpAnyH_ready (rs := [7]) (by kernel_rfl) (by simp) ?_
      refine AllReadyH.cons rfl (fun K hK => ?_) AllReadyH.nil
      go_simp
      refine (need_any (decide ((q : Int) / wd ≤ n)) 5 _).mono ?_
      rintro e X ⟨rfl, hX⟩
      obtain ⟨w3, hw3⟩ : ∃ w3 : World, { w2 with drawn := w2.drawn + 1 } = w3 := ⟨_, rfl⟩
      replace hX : X = w3 := hX.trans hw3
      obtain rfl : w3 = X := hX.symm
      have hS3 : Below w2.heap.size w2 w3 := by rw [← hw3]; exact hS0
      have hbw3 : Below w.heap.size w w3 := hbw2.trans (hS3.mono hbw2.size)
      by_cases hle : ((q / wd : Nat) : Int) ≤ n
      case neg =>
        rw [if_neg (by rw [HDV.out]; simpa using hle)]
        obtain rfl : T = (0, 5) := by rw [← HT.out]; unfold itE; rw [if_neg hs, if_pos rfl, HQ.out, if_neg (by simp [hr]), if_pos (by omega)]
        exact ⟨rfl, fun h => by simp at h, fun _ => rfl, hbw3⟩
      rw [if_pos (by rw [HDV.out]; simpa using hle)]
      obtain rfl : T = (q / wd, 0) := by rw [← HT.out]; unfold itE; rw [if_neg hs, if_pos rfl, HQ.out, if_neg (by simp [hr]), if_neg (by omega)]
      try go_wp2_with fail
      refine hK.out _ _ hS3 (fun _ => ?_)
      clear hK K
      simp only [List.setIfInBounds_toArray, List.set_cons_zero, List.set_cons_succ]
      refine wpAnyH_done (by kernel_rfl) ?_ _
      have x2 := (hS3.cell (p := ⟨w1.heap.size, 4, none⟩) hz2).trans v2
      clear v1 v2 hw3
      go_wp2_with fail
      go_ret
      exact ⟨fun _ => by show _ = Ending.returned (.int .i64 ((q / wd : Nat) : Int)); rw [← HDV.out]; rfl, fun h => absurd rfl h, hbw3⟩
    | false =>
      obtain ⟨w2, hw2⟩ : ∃ w2, w1.alloc (.cells #[.int .i64 k', .int .i64 m', .slice ua us.length uc, .bool false, .int .i64 (wd : Nat)] 56) = w2 := ⟨_, rfl⟩
      have hb2 : Below w1.heap.size w1 w2 := by rw [← hw2]; exact (Below.refl _ _).alloc (Nat.le_refl _) _
      have hbw2 := hbw1.trans (hb2.mono hbw1.size)
      have hz1 : w.heap.size < w1.heap.size := Nat.lt_of_lt_of_le hz0 hb1.size
      have hz2 : w1.heap.size < w2.heap.size := by rw [← hw2]; simp
      have hz3 : w.heap.size < w2.heap.size := Nat.lt_trans hz1 hz2
      have hn2 : w2.heap[w1.heap.size]? = some (.cells #[.int .i64 k', .int .i64 m', .slice ua us.length uc, .bool false, .int .i64 (wd : Nat)] 56 (0, 0)) := by rw [← hw2]; exact World.alloc_heap_new _ _
      have v1 := (hb2.cell (p := ⟨w.heap.size, 1, none⟩) hz1).trans u1
      have v2 : w2.cell? ⟨w1.heap.size, 4, none⟩ = some (.int .i64 (wd : Nat)) := by simp [World.cell?, hn2]
      have HW2 := Lib.hid hw2
      clear hn2 hw2
      have HUN := Lib.hid (fun (h4 : 4 ≤ s.length) W => unoffset_any (s.take 4) W (by simp; omega))
      have hql := M.led_lt (s.take 4)
      obtain ⟨q, hq⟩ : ∃ q, M.led (s.take 4) = q := ⟨_, rfl⟩
      rw [hq] at HUN hql
      have HQ := Lib.hid hq
      go_wp2_with fail
      rw [HW2.out]
      refine (need_any (decide ((4 : Int) ≤ s.length)) 2 _).mono ?_
      rintro e X ⟨rfl, hX⟩
      obtain rfl : w2 = X := hX.symm
      by_cases h4 : 4 ≤ s.length
      case neg =>
        rw [if_neg (by simp; omega)]
        obtain rfl : T = (0, 2) := by rw [← HT.out]; unfold itE; rw [if_neg hs, if_neg (by decide), if_pos (.inl (by omega))]
        exact ⟨rfl, fun h => by simp at h, fun _ => rfl, hbw2⟩
      rw [if_pos (by simp; omega)]
      have h4i : (4 : Int) ≤ s.length := by omega
      go_wp2_with fail
      have hq9 : q ≤ 4294967296 := by rw [List.length_take, Nat.min_eq_left h4] at hql; omega
      have hdl : q / wd ≤ 4294967296 := Nat.le_trans (Nat.div_le_self _ _) hq9
      have HEM : Hid ((q : Int) % (wd : Int) = ((q % wd : Nat) : Int)) := (Int.natCast_emod q wd).symm
      have HDV : Hid ((q : Int) / (wd : Int) = ((q / wd : Nat) : Int)) := (Int.natCast_ediv q wd).symm
      have hwd0 : ¬ (wd : Int) = 0 := by omega
      have hwq : IntKind.i64.wrap ((q : Int) / wd) = (q : Int) / wd := by
        rw [HDV.out]
        generalize q / wd = d at hdl ⊢
        rw [IntKind.wrap_i64]
        omega
      have hd0 : (0 : Int) ≤ (q : Int) / wd := by rw [HDV.out]; exact Int.natCast_nonneg _
      have hd1 : (q : Int) / wd ≤ 4294967296 := by rw [HDV.out]; exact Int.ofNat_le.2 hdl
      rw [ext_take]
      refine (HUN.out h4 _).mono ?_
      rintro e X ⟨rfl, hX⟩
      obtain rfl : w2 = X := hX.symm
      go_wp2_with fail
      refine (need_any (decide (0 < q)) 2 _).mono ?_
      rintro e X ⟨rfl, hX⟩
      obtain rfl : w2 = X := hX.symm
      by_cases hq0 : 0 < q
      case neg =>
        rw [if_neg (by simp; omega)]
        obtain rfl : T = (0, 2) := by rw [← HT.out]; unfold itE; rw [if_neg hs, if_neg (by decide), HQ.out, if_pos (.inr (.inr (by omega)))]
        exact ⟨rfl, fun h => by simp at h, fun _ => rfl, hbw2⟩
      rw [if_pos (by simp; omega)]
      clear hql hq
      go_wp2_with fail
      refine (need_any ((q : Int) % (wd : Int) == 0) 2 _).mono ?_
      rintro e X ⟨rfl, hX⟩
      obtain rfl : w2 = X := hX.symm
      by_cases hr : q % wd = 0
      case neg =>
        rw [if_neg (by rw [HEM.out]; simp; omega)]
        obtain rfl : T = (0, 2) := by rw [← HT.out]; unfold itE; rw [if_neg hs, if_neg (by decide), HQ.out, if_pos (.inr (.inl hr))]
        exact ⟨rfl, fun h => by simp at h, fun _ => rfl, hbw2⟩
      rw [if_pos (by rw [HEM.out, hr]; rfl)]
      go_wp2_with fail
      refine wp_region_held (S := fun Y => Below w2.heap.size w2 Y) mixed ?_
      have hS0 : (fun Y => Below w2.heap.size w2 Y) { w2 with drawn := w2.drawn + 1 } := Below.drew (Below.refl _ _)
      rw [show Array.replicate (Array.size _) false = #[false, false, false, false, false, false, false, false] from rfl, show Array.size (α := Oper) _ = 8 from rfl]
      refine wpAnyH_take (i := 0) (v := .int .i64 (q : Nat)) rfl (by kernel_rfl) (by kernel_rfl) (by kernel_rfl) (fun _ _ _ h => h) (Or.inl ⟨by rfl, ?_⟩) hS0 ?_
      · intro Y hY
        skip
        go_simp
      simp only [Act.put, List.getElem_toArray, List.getElem_cons_zero, List.setIfInBounds_toArray, List.set_cons_zero, List.set_cons_succ]
      refine wpAnyH_take (i := 1) (v := .pointer (some ⟨w1.heap.size, 4, none⟩)) rfl (by kernel_rfl) (by kernel_rfl) (by kernel_rfl) (fun _ _ _ h => h) (Or.inl ⟨by rfl, ?_⟩) hS0 ?_
      · intro Y hY
        skip
        go_simp
      simp only [Act.put, List.getElem_toArray, List.getElem_cons_succ, List.getElem_cons_zero, List.setIfInBounds_toArray, List.set_cons_zero, List.set_cons_succ]
      refine wpAnyH_take (i := 2) (v := .int .i64 (wd : Nat)) rfl (by kernel_rfl) (by kernel_rfl) (by kernel_rfl) (fun _ _ _ h => h) (Or.inl ⟨by rfl, ?_⟩) hS0 ?_
      · intro Y hY
        have e4 := (hY.cell (p := ⟨w1.heap.size, 4, none⟩) hz2).trans v2
        go_simp
      simp only [Act.put, List.getElem_toArray, List.getElem_cons_succ, List.getElem_cons_zero, List.setIfInBounds_toArray, List.set_cons_zero, List.set_cons_succ]
      refine wpAnyH_take (i := 3) (v := .int .i64 ((q : Int) / wd)) rfl (by kernel_rfl) (by kernel_rfl) (by kernel_rfl) (fun _ _ _ h => h) (Or.inl ⟨by rfl, ?_⟩) hS0 ?_
      · intro Y hY
        skip
        go_simp
        try exact hwq
      simp only [Act.put, List.getElem_toArray, List.getElem_cons_succ, List.getElem_cons_zero, List.setIfInBounds_toArray, List.set_cons_zero, List.set_cons_succ]
      refine wpAnyH_take (i := 4) (v := .pointer (some ⟨w.heap.size, 1, none⟩)) rfl (by kernel_rfl) (by kernel_rfl) (by kernel_rfl) (fun _ _ _ h => h) (Or.inl ⟨by rfl, ?_⟩) hS0 ?_
      · intro Y hY
        skip
        go_simp
      simp only [Act.put, List.getElem_toArray, List.getElem_cons_succ, List.getElem_cons_zero, List.setIfInBounds_toArray, List.set_cons_zero, List.set_cons_succ]
      refine wpAnyH_take (i := 5) (v := .int .i64 n) rfl (by kernel_rfl) (by kernel_rfl) (by kernel_rfl) (fun _ _ _ h => h) (Or.inl ⟨by rfl, ?_⟩) hS0 ?_
      · intro Y hY
        have e1 := (hY.cell (p := ⟨w.heap.size, 1, none⟩) hz3).trans v1
        go_simp
      simp only [Act.put, List.getElem_toArray, List.getElem_cons_succ, List.getElem_cons_zero, List.setIfInBounds_toArray, List.set_cons_zero, List.set_cons_succ]
      refine wpAnyH_take (i := 6) (v := .bool (decide ((q : Int) / wd ≤ n))) rfl (by kernel_rfl) (by kernel_rfl) (by kernel_rfl) (fun _ _ _ h => h) (Or.inl ⟨by rfl, ?_⟩) hS0 ?_
      · intro Y hY
        skip
        go_simp
      simp only [Act.put, List.getElem_toArray, List.getElem_cons_succ, List.getElem_cons_zero, List.setIfInBounds_toArray, List.set_cons_zero, List.set_cons_succ]
      refine wpAnyH_ready (rs := [7]) (by kernel_rfl) (by simp) ?_
      refine AllReadyH.cons rfl (fun K hK => ?_) AllReadyH.nil
      go_simp
      refine (need_any (decide ((q : Int) / wd ≤ n)) 5 _).mono ?_
      rintro e X ⟨rfl, hX⟩
      obtain ⟨w3, hw3⟩ : ∃ w3 : World, { w2 with drawn := w2.drawn + 1 } = w3 := ⟨_, rfl⟩
      replace hX : X = w3 := hX.trans hw3
      obtain rfl : w3 = X := hX.symm
      have hS3 : Below w2.heap.size w2 w3 := by rw [← hw3]; exact hS0
      have hbw3 : Below w.heap.size w w3 := hbw2.trans (hS3.mono hbw2.size)
      by_cases hle : ((q / wd : Nat) : Int) ≤ n
      case neg =>
        rw [if_neg (by rw [HDV.out]; simpa using hle)]
        obtain rfl : T = (0, 5) := by rw [← HT.out]; unfold itE; rw [if_neg hs, if_neg (by decide), HQ.out, if_neg (by simp [hr]; omega), if_pos (by omega)]
        exact ⟨rfl, fun h => by simp at h, fun _ => rfl, hbw3⟩
      rw [if_pos (by rw [HDV.out]; simpa using hle)]
      obtain rfl : T = (q / wd, 0) := by rw [← HT.out]; unfold itE; rw [if_neg hs, if_neg (by decide), HQ.out, if_neg (by simp [hr]; omega), if_neg (by omega)]
      try go_wp2_with fail
      refine hK.out _ _ hS3 (fun _ => ?_)
      clear hK K
      simp only [List.setIfInBounds_toArray, List.set_cons_zero, List.set_cons_succ]
      refine wpAnyH_done (by kernel_rfl) ?_ _
      have x2 := (hS3.cell (p := ⟨w1.heap.size, 4, none⟩) hz2).trans v2
      clear v1 v2 hw3
      go_wp2_with fail
      go_ret
      exact ⟨fun _ => by show _ = Ending.returned (.int .i64 ((q / wd : Nat) : Int)); rw [← HDV.out]; rfl, fun h => absurd rfl h, hbw3⟩
end Go.Proofs.YtgloapcfmlijlaaGreatDoor
namespace Go.Proofs.YtgloapcfmlijlaaGreatDoor
open Go Go.RowKit Go.Lib

theorem nan_any (a : Nat) (w : World) : Calls Tryz.prog 229 #[.int .i64 (a : Nat)] w fun e w' => e = .returned (.bool false) ∧ w' = w := by
  go_enter Tryz.func229, Tryz.ntmps229
  go_wp2_with fail
  go_ret
  exact ⟨by simp, rfl⟩
theorem cmpless_any (a b : Nat) (w : World) : Calls Tryz.prog 216 #[.int .i64 (a : Nat), .int .i64 (b : Nat)] w fun e w' => e = .returned (.bool (decide (a < b))) ∧ w' = w := by
  have HN := Lib.hid (nan_any a)
  go_enter Tryz.func216, Tryz.ntmps216
  go_wp2_with fail
  refine (HN.out w).mono ?_
  rintro e X ⟨rfl, hX⟩
  obtain rfl : w = X := hX.symm
  go_wp2_with fail
  go_ret
  exact ⟨by simp, rfl⟩

set_option maxRecDepth 100000 in
set_option maxHeartbeats 4000000 in
theorem sorted_any (f : Nat → Nat) (g m cap : Nat) (w : World) (h1 : 1 ≤ m) (hm : m ≤ 64000) (hg : g < w.heap.size) (hc : ∀ j, j < m → w.cell? ⟨g, j, none⟩ = some (.int .i64 (f j : Nat))) :
    Calls Tryz.prog 186 #[.slice (some ⟨g, 0, none⟩) m cap] w fun e w' => e = .returned (.bool ((List.range (m - 1)).all fun i => decide (f i ≤ f (i + 1)))) ∧ Below w.heap.size w w' := by
  have mixed : Tryz.prog.follows .mixedOrders = true := by kernel_rfl
  obtain ⟨m', rfl⟩ : ∃ m', m = m' + 1 := ⟨m - 1, by omega⟩
  rw [Nat.add_sub_cancel]
  go_enter Tryz.func186, Tryz.ntmps186
  go_wp2_with fail
  go_loopw [3] (fun i wr => ∃ j : Nat, j ≤ m' ∧ i = .int .i64 (j : Nat) ∧ (∀ k, j ≤ k → k < m' → f k ≤ f (k + 1)) ∧ Below w.heap.size w wr) (fun i _ => (RowKit.intOf i).toNat)
  case atStart => exact ⟨m', Nat.le_refl _, by simp, fun k h1 h2 => by omega, Below.refl _ _⟩
  case round =>
    obtain ⟨j, hj, rfl, hs, hW⟩ := hrel
    by_cases h0 : j = 0
    · subst h0
      go_wp2_with fail
      go_ret
      refine ⟨?_, hW⟩
      rw [show ((List.range m').all fun i => decide (f i ≤ f (i + 1))) = true by
        rw [List.all_eq_true]
        intro k hk
        rw [List.mem_range] at hk
        simpa using hs k (by omega) hk]
      rfl
    · obtain ⟨i, rfl⟩ : ∃ i, j = i + 1 := ⟨j - 1, by omega⟩
      have c1 := (hW.cell (p := ⟨g, i + 1, none⟩) hg).trans (hc (i + 1) (by omega))
      have c0 := (hW.cell (p := ⟨g, i, none⟩) hg).trans (hc i (by omega))
      have hgr : g < wr.heap.size := Nat.lt_of_lt_of_le hg hW.size
      have hi9 : i < 64000 := by omega
      have him : i < m' := by omega
      go_wp2_with fail
      refine wp_region_held (S := fun Y => Below wr.heap.size wr Y) mixed ?_
      have hS0 : (fun Y => Below wr.heap.size wr Y) { wr with drawn := wr.drawn + 1 } := Below.drew (Below.refl _ _)
      rw [show Array.replicate (Array.size _) false = #[false, false, false, false, false, false, false, false, false, false] from rfl, show Array.size (α := Oper) _ = 10 from rfl]
      refine wpAnyH_take (i := 0) (v := .slice (some ⟨g, 0, none⟩) (m' + 1) cap) rfl (by kernel_rfl) (by kernel_rfl) (by kernel_rfl) (fun _ _ _ h => h) (Or.inl ⟨by rfl, ?_⟩) hS0 ?_
      · intro Y hY
        skip
        go_simp
      simp only [Act.put, List.getElem_toArray, List.getElem_cons_zero, List.setIfInBounds_toArray, List.set_cons_zero, List.set_cons_succ]
      refine wpAnyH_take (i := 1) (v := .int .i64 ((i : Int) + 1)) rfl (by kernel_rfl) (by kernel_rfl) (by kernel_rfl) (fun _ _ _ h => h) (Or.inl ⟨by rfl, ?_⟩) hS0 ?_
      · intro Y hY
        skip
        go_simp
      simp only [Act.put, List.getElem_toArray, List.getElem_cons_succ, List.getElem_cons_zero, List.setIfInBounds_toArray, List.set_cons_zero, List.set_cons_succ]
      refine wpAnyH_take (i := 2) (v := .pointer (some ⟨g, i + 1, none⟩)) rfl (by kernel_rfl) (by kernel_rfl) (by kernel_rfl) (fun _ _ _ h => h) (Or.inl ⟨by rfl, ?_⟩) hS0 ?_
      · intro Y hY
        skip
        go_simp
        intro hh; exfalso; omega
      simp only [Act.put, List.getElem_toArray, List.getElem_cons_succ, List.getElem_cons_zero, List.setIfInBounds_toArray, List.set_cons_zero, List.set_cons_succ]
      refine wpAnyH_take (i := 3) (v := .int .i64 (f (i + 1) : Nat)) rfl (by kernel_rfl) (by kernel_rfl) (by kernel_rfl) (fun _ _ _ h => h) (Or.inl ⟨by rfl, ?_⟩) hS0 ?_
      · intro Y hY
        have e1 := (hY.cell (p := ⟨g, i + 1, none⟩) hgr).trans c1
        go_simp
      simp only [Act.put, List.getElem_toArray, List.getElem_cons_succ, List.getElem_cons_zero, List.setIfInBounds_toArray, List.set_cons_zero, List.set_cons_succ]
      refine wpAnyH_take (i := 4) (v := .slice (some ⟨g, 0, none⟩) (m' + 1) cap) rfl (by kernel_rfl) (by kernel_rfl) (by kernel_rfl) (fun _ _ _ h => h) (Or.inl ⟨by rfl, ?_⟩) hS0 ?_
      · intro Y hY
        skip
        go_simp
      simp only [Act.put, List.getElem_toArray, List.getElem_cons_succ, List.getElem_cons_zero, List.setIfInBounds_toArray, List.set_cons_zero, List.set_cons_succ]
      refine wpAnyH_take (i := 5) (v := .int .i64 ((i : Int) + 1)) rfl (by kernel_rfl) (by kernel_rfl) (by kernel_rfl) (fun _ _ _ h => h) (Or.inl ⟨by rfl, ?_⟩) hS0 ?_
      · intro Y hY
        skip
        go_simp
      simp only [Act.put, List.getElem_toArray, List.getElem_cons_succ, List.getElem_cons_zero, List.setIfInBounds_toArray, List.set_cons_zero, List.set_cons_succ]
      refine wpAnyH_take (i := 6) (v := .int .i64 (i : Nat)) rfl (by kernel_rfl) (by kernel_rfl) (by kernel_rfl) (fun _ _ _ h => h) (Or.inl ⟨by rfl, ?_⟩) hS0 ?_
      · intro Y hY
        skip
        go_simp
        rw [IntKind.wrap_i64]; omega
      simp only [Act.put, List.getElem_toArray, List.getElem_cons_succ, List.getElem_cons_zero, List.setIfInBounds_toArray, List.set_cons_zero, List.set_cons_succ]
      refine wpAnyH_take (i := 7) (v := .pointer (some ⟨g, i, none⟩)) rfl (by kernel_rfl) (by kernel_rfl) (by kernel_rfl) (fun _ _ _ h => h) (Or.inl ⟨by rfl, ?_⟩) hS0 ?_
      · intro Y hY
        skip
        go_simp
        intro hh; exfalso; omega
      simp only [Act.put, List.getElem_toArray, List.getElem_cons_succ, List.getElem_cons_zero, List.setIfInBounds_toArray, List.set_cons_zero, List.set_cons_succ]
      refine wpAnyH_take (i := 8) (v := .int .i64 (f i : Nat)) rfl (by kernel_rfl) (by kernel_rfl) (by kernel_rfl) (fun _ _ _ h => h) (Or.inl ⟨by rfl, ?_⟩) hS0 ?_
      · intro Y hY
        have e0 := (hY.cell (p := ⟨g, i, none⟩) hgr).trans c0
        go_simp
      simp only [Act.put, List.getElem_toArray, List.getElem_cons_succ, List.getElem_cons_zero, List.setIfInBounds_toArray, List.set_cons_zero, List.set_cons_succ]
      refine wpAnyH_ready (rs := [9]) (by kernel_rfl) (by simp) ?_
      refine AllReadyH.cons rfl (fun K hK => ?_) AllReadyH.nil
      go_simp
      refine (cmpless_any (f (i + 1)) (f i) _).mono ?_
      rintro e X ⟨rfl, hX⟩
      obtain ⟨w3, hw3⟩ : ∃ w3 : World, { wr with drawn := wr.drawn + 1 } = w3 := ⟨_, rfl⟩
      replace hX : X = w3 := hX.trans hw3
      obtain rfl : w3 = X := hX.symm
      have hS3 : Below wr.heap.size wr w3 := by rw [← hw3]; exact hS0
      have hbw3 : Below w.heap.size w w3 := hW.trans (hS3.mono hW.size)
      try go_wp2_with fail
      refine hK.out _ _ hS3 (fun _ => ?_)
      clear hK K
      simp only [List.setIfInBounds_toArray, List.set_cons_zero, List.set_cons_succ]
      refine wpAnyH_done (by kernel_rfl) ?_ _
      clear hw3 c0 c1
      by_cases hlt : f (i + 1) < f i
      · go_wp2_with fail
        go_ret
        refine ⟨?_, hbw3⟩
        rw [show ((List.range m').all fun i => decide (f i ≤ f (i + 1))) = false by
          rw [List.all_eq_false]
          exact ⟨i, List.mem_range.2 him, by simp; omega⟩]
        rfl
      · go_wp2_with fail
        exact ⟨⟨i, by omega, rfl, fun k h3 h4 => by
          by_cases e : k = i
          · subst e; omega
          · exact hs k (by omega) h4, hbw3⟩, by simp [RowKit.intOf]⟩
end Go.Proofs.YtgloapcfmlijlaaGreatDoor
namespace Go.Proofs.YtgloapcfmlijlaaGreatDoor
open Go Go.RowKit Go.Lib

/-- Whole numbers as cells. -/
def ic (l : List Nat) : List Value := l.map fun (n : Nat) => Value.int .i64 (n : Int)
theorem ic_append (l m : List Nat) : ic (l ++ m) = ic l ++ ic m := by simp [ic]
/-- A row of whole numbers of one's own. -/
def OwI (B : Nat) (l : List Nat) (v : Value) (w : World) : Prop := w.ownsRow B 3 1 v l.length (ic l)
theorem OwI.nil (B : Nat) (w : World) : OwI B [] (.slice none 0 0) w := World.ownsRow_nil _ _ _ _
theorem OwI.mono {A B : Nat} {l : List Nat} {v : Value} {w : World} (h : OwI B l v w) (hAB : A ≤ B) : OwI A l v w := by
  refine ⟨h.1, ?_⟩
  rcases h.2 with h0 | ⟨g, cap, cur, hv, hb, h1⟩
  · exact .inl h0
  · exact .inr ⟨g, cap, cur, hv, by omega, h1⟩
theorem OwI.lt {B : Nat} {l : List Nat} {v : Value} {w : World} (h : OwI B l v w) : ∀ k, v.ownBlock = some k → B ≤ k ∧ k < w.heap.size := World.ownsRow.lt h
theorem OwI.len {B : Nat} {l : List Nat} {v : Value} {w : World} (h : OwI B l v w) : ∃ a cap, v = .slice a l.length cap := by
  rcases h.2 with ⟨h0, h1⟩ | ⟨g, cap, cur, rfl, hB, hg, h1⟩
  · exact ⟨none, 0, by rw [h0, h1]⟩
  · exact ⟨_, _, rfl⟩
/-- Where a row that is not empty stands, and its cells. -/
theorem OwI.row {B : Nat} {l : List Nat} {v : Value} {w : World} (h : OwI B l v w) (hl : 0 < l.length) : ∃ g cap, v = .slice (some ⟨g, 0, none⟩) l.length cap ∧ B ≤ g ∧ g < w.heap.size ∧ ∀ j n, l[j]? = some n → w.cell? ⟨g, j, none⟩ = some (.int .i64 (n : Nat)) := by
  rcases id h.2 with ⟨_, h0⟩ | ⟨g, cap, cur, rfl, hB, hg, hnc, hcm, hcs, htake⟩
  · omega
  · refine ⟨g, cap, rfl, hB, (Array.getElem?_eq_some_iff.1 hg).1, fun j n hj => ?_⟩
    have hi := (List.getElem?_eq_some_iff.1 hj).1
    have := World.ownsRow.cellAt h j (by omega)
    rw [this]
    simp [ic, hj]
theorem OwI.grown {B : Nat} {l : List Nat} {v : Value} {w W : World} {row : Option Nat} (h : OwI B l v w) (hg : w.grownBy W row) (hr : ∀ g, v.ownBlock = some g → row ≠ some g) : OwI B l v W := by
  refine ⟨h.1, ?_⟩
  rcases h.2 with h0 | ⟨g, cap, cur, hv, hB, hgc, h1⟩
  · exact .inl h0
  · exact .inr ⟨g, cap, cur, hv, hB, (hg.block g (Array.getElem?_eq_some_iff.1 hgc).1 (fun e => hr g (by rw [hv]; rfl) e.symm)).trans hgc, h1⟩
theorem OwI.from_ {B : Nat} {l : List Nat} {v : Value} {w W : World} (h : OwI B l v w) (hb : Below w.heap.size w W) : OwI B l v W :=
  h.grown (row := none) ⟨hb.os, hb.tape, hb.output, hb.size, fun i hi _ => hb.block i hi⟩ (fun g _ e => by cases e)
theorem OwI.notCells {B : Nat} {l : List Nat} {v : Value} {w : World} (h : OwI B l v w) {c : Nat} {o : Obj} (hc : w.heap[c]? = some o) (ho : o.isCells = false) : some c ≠ v.ownBlock := fun e => by
  rcases h.2 with ⟨rfl, _⟩ | ⟨g', cap', cur', rfl, _, hg', _⟩
  · cases e
  · cases e
    rw [hg'] at hc
    cases hc
    cases ho
theorem Tryz.ofInt : (Tryz.prog.info? 3).map (fun i => (i.zero, i.size, i.bytes)) = some (some (.int .i64 0), 1, 8) := by kernel_rfl
structure AppI (w w' : World) (B : Nat) (l : List Nat) (v v' : Value) : Prop where
  own : OwI B l v' w'
  grown : w.grownBy w' v.ownBlock
  blk : v'.ownBlock = v.ownBlock ∨ ∀ g, v'.ownBlock = some g → w.heap.size ≤ g
theorem run_append_one (w : World) (ty : TypeId) (B : Nat) (l : List Nat) (n g : Nat) (v : Value) (hown : OwI B l v w) (hc : w.cell? ⟨g, 0, none⟩ = some (.int .i64 (n : Nat))) (hn : l.length ≤ 1000000) (hB : B ≤ w.heap.size) :
    ∃ v' w', (Builtin.append_ #[137, 137] ty #[v, .slice (some ⟨g, 0, none⟩) 1 1]).run Tryz.prog w = .ok v' w' ∧ AppI w w' B (l ++ [n]) v v' := by
  obtain ⟨i0, hi, hz0, hz1, hz2⟩ := info_parts Tryz.ofInt
  obtain ⟨v', w', h1, h2, h3, h4⟩ := run_append_blk (P := Tryz.prog) w B 137 ty 3 i0 (.int .i64 0) 1 8 Tryz.underlying137 hi hz0 hz1 hz2 rfl (by decide) v l.length (ic l) hown ⟨g, 0, none⟩ 1 1 [.int .i64 (n : Nat)] rfl (fun j u hj => by
    cases j with
    | zero => cases hj; exact hc
    | succ j => simp at hj) (by simp [Value.oneCell']) (by unfold maxLen; omega) (by omega) hB
  exact ⟨v', w', h1, by unfold OwI; rw [ic_append, List.length_append]; exact h2, h3, h4⟩
theorem wpListIn_append_one {F : Fence} {m : Nat} (w : World) {ops : Array Oper} {rest : List Oper} {o : Oper} {a : Act} {Q : Exit → Act → World → Prop} (hg : o.guard = none) (s x : Operand) (hop : o.op = .call { callee := .builtin .append, args := #[s, x], argTypes := #[137, 137] })
    (B : Nat) (l : List Nat) (n g : Nat) (v : Value) (hs : a.eval s = v) (hx : a.eval x = .slice (some ⟨g, 0, none⟩) 1 1) (hown : OwI B l v w) (hc : w.cell? ⟨g, 0, none⟩ = some (.int .i64 (n : Nat))) (hn : l.length ≤ 1000000) (hB : B ≤ w.heap.size)
    (h : ∀ v' w', AppI w w' B (l ++ [n]) v v' → wpListIn F m Tryz.prog ops Q rest (a.put o.dst v') w') : wpListIn F m Tryz.prog ops Q (o :: rest) a w := by
  refine wpListIn_plain hg fun K hK' => ?_
  obtain ⟨v', w', hrun, r1⟩ := run_append_one w o.type B l n g v hown hc hn hB
  unfold Oper.wpIn
  refine ⟨?_, ?_⟩
  · simp [Oper.about, hop, resolve, Target.leads, Sem.run_pure]
  · rw [Oper.semAt_plain F _ _ (by rw [hop]; intro c hc'; cases hc')]
    simp [execOp, hop, resolve, invoke, builtin, hs, hx, hrun, Result.andThen]
    exact hK' _ _ (h v' w' r1)
theorem wp_append_one (w : World) {o : Oper} {a : Act} {K : Act → World → Prop} {Q : Exit → Act → World → Prop} (s x : Operand) (ho : o.op = .call { callee := .builtin .append, args := #[s, x], argTypes := #[137, 137] })
    (B : Nat) (l : List Nat) (n g : Nat) (v : Value) (hs : a.eval s = v) (hx : a.eval x = .slice (some ⟨g, 0, none⟩) 1 1) (hown : OwI B l v w) (hc : w.cell? ⟨g, 0, none⟩ = some (.int .i64 (n : Nat))) (hn : l.length ≤ 1000000) (hB : B ≤ w.heap.size)
    (h : ∀ v' w', AppI w w' B (l ++ [n]) v v' → K (a.put o.dst v') w') : o.wp Tryz.prog a w K Q := by
  obtain ⟨v', w', hr, r1⟩ := run_append_one w o.type B l n g v hown hc hn hB
  unfold Oper.wp execOp
  simp only [ho, resolve, invoke, builtin, Sem.run_bind, Sem.run_pure, Result.andThen_ok, List.map_toArray, List.map_cons, List.map_nil, hs, hx, hr]
  exact h v' w' r1
theorem KO_appI {W W1 : World} {B : Nat} {l s : List Nat} {v v' : Value} (hA : AppI W W1 B s v v') (hO : OwI B l v W) : KeepsOthers W W1 :=
  ⟨hA.grown.size, fun c _ h ho => (hA.grown.block c (Array.getElem?_eq_some_iff.1 h).1 (hO.notCells h ho)).trans h⟩

/-- Strings in a block. -/
def BkS (W : World) (g n : Nat) (f : Nat → List UInt8) : Prop := (∀ j, j < n → W.cell? ⟨g, j, none⟩ = some (.string ⟨(f j).toArray⟩)) ∧ (∀ j, j < n → W.frozen? ⟨g, j, none⟩ = false)
theorem BkS.set {W : World} {g n : Nat} {f f' : Nat → List UInt8} (h : BkS W g n f) {j : Nat} (hj : j < n) (b : List UInt8) (h1 : f' j = b) (h2 : ∀ k, k ≠ j → f' k = f k) : BkS (W.setCell ⟨g, j, none⟩ (.string ⟨b.toArray⟩)) g n f' := by
  refine ⟨fun k hk => ?_, fun k hk => by rw [World.frozen?_setCell]; exact h.2 k hk⟩
  by_cases e : k = j
  · subst e
    rw [World.cell?_setCell_same' _ _ _ (by rw [h.1 k hj]; rfl), h1]
  · rw [World.cell?_setCell_other _ _ _ _ (by simp), h.1 k hk, h2 k e]
theorem BkS.block {W W' : World} {g n : Nat} {f : Nat → List UInt8} (h : BkS W g n f) (hb : W'.heap[g]? = W.heap[g]?) : BkS W' g n f :=
  ⟨fun j hj => (World.cell?_of_block hb).trans (h.1 j hj), fun j hj => by have := h.2 j hj; unfold World.frozen? at this ⊢; rw [hb]; exact this⟩

/-- Between two rounds of the first loop: how far it has come, what has been cut, which stand apart, where. -/
structure RC (A : World) (g nb ab eb items at_ : Nat) (ap en : List Nat) (f : Nat → List UInt8) (W : World) : Prop where
  gr : Gr A W (fun b => b = g ∨ b = nb ∨ b = ab ∨ b = eb)
  nx : Boxed W nb 3 (.int .i64 (at_ : Nat))
  row : BkS W g items f
  v : ∃ v1 v2, Boxed W ab 137 v1 ∧ Boxed W eb 137 v2 ∧ OwI (A.heap.size + 3) ap v1 W ∧ OwI (A.heap.size + 3) en v2 W ∧ ∀ k, v1.ownBlock = some k → v2.ownBlock ≠ some k
theorem RC.grow {A W W' : World} {g nb ab eb items at_ : Nat} {ap en : List Nat} {f : Nat → List UInt8} {row : Option Nat} (h : RC A g nb ab eb items at_ ap en f W) (hg : W.grownBy W' row) (hgA : g < A.heap.size) (hn : nb < A.heap.size) (hb : ab < A.heap.size) (hd : eb < A.heap.size) (hr : ∀ j, row = some j → A.heap.size ≤ j ∧ (j < A.heap.size + 3 ∨ ∃ o : Obj, W.heap[j]? = some o ∧ o.isCells = false)) : RC A g nb ab eb items at_ ap en f W' := by
  obtain ⟨v1, v2, h1, h2, h3, h4, h5⟩ := h.v
  have key : ∀ {l : List Nat} {v : Value}, OwI (A.heap.size + 3) l v W → OwI (A.heap.size + 3) l v W' := fun {l v} ho => ho.grown hg fun g hgv e => by
    have hlt := ho.lt g hgv
    rcases (hr g e).2 with h | ⟨o, h, hc⟩
    · omega
    · exact ho.notCells h hc hgv.symm
  have hsz := h.gr.size
  exact ⟨h.gr.grow hg fun j e => .inl (hr j e).1, h.nx.kept hg (fun e => by have := (hr _ e.symm).1; omega), h.row.block (hg.block g (by omega) (fun e => by have := (hr _ e.symm).1; omega)), v1, v2, h1.kept hg (fun e => by have := (hr _ e.symm).1; omega), h2.kept hg (fun e => by have := (hr _ e.symm).1; omega), key h3, key h4, h5⟩
theorem RC.below {A W W' : World} {g nb ab eb items at_ : Nat} {ap en : List Nat} {f : Nat → List UInt8} (h : RC A g nb ab eb items at_ ap en f W) (hb : Below W.heap.size W W') (hgA : g < A.heap.size) (hn : nb < A.heap.size) (hb' : ab < A.heap.size) (hd : eb < A.heap.size) : RC A g nb ab eb items at_ ap en f W' :=
  h.grow (row := none) ⟨hb.os, hb.tape, hb.output, hb.size, fun i hi _ => hb.block i hi⟩ hgA hn hb' hd (fun _ e => by cases e)
theorem RC.drew {A W : World} {g nb ab eb items at_ : Nat} {ap en : List Nat} {f : Nat → List UInt8} (h : RC A g nb ab eb items at_ ap en f W) : RC A g nb ab eb items at_ ap en f W.drew := ⟨h.gr.drew, h.nx, h.row, h.v⟩
/-- How far it has come is stored. -/
theorem RC.next {A W : World} {g nb ab eb items at_ at' : Nat} {ap en : List Nat} {f : Nat → List UInt8} (h : RC A g nb ab eb items at_ ap en f W) (hn : nb < A.heap.size) (h1 : nb ≠ ab) (h2 : nb ≠ eb) (h3 : nb ≠ g) : RC A g nb ab eb items at' ap en f (W.setCell ⟨nb, 0, none⟩ (.int .i64 (at' : Nat))) := by
  obtain ⟨v1, v2, a1, a2, a3, a4, a5⟩ := h.v
  have hgs := grownBy_setCell' W nb (.int .i64 (at' : Nat))
  exact ⟨h.gr.set _ _ (.inr (.inr (.inl rfl))), h.nx.set _, h.row.block (Below.heap_setCell _ _ _ _ (fun e => h3 e.symm)), v1, v2, a1.other (Ne.symm h1) _, a2.other (Ne.symm h2) _, a3.grown hgs fun k hk e => by cases e; have := (a3.lt _ hk).1; omega, a4.grown hgs fun k hk e => by cases e; have := (a4.lt _ hk).1; omega, a5⟩
/-- An item's bytes are stored. -/
theorem RC.cut {A W : World} {g nb ab eb items at_ : Nat} {ap en : List Nat} {f f' : Nat → List UInt8} (h : RC A g nb ab eb items at_ ap en f W) (hg : g < A.heap.size) (h1 : g ≠ ab) (h2 : g ≠ eb) (h3 : g ≠ nb) {j : Nat} (hj : j < items) (b : List UInt8) (e1 : f' j = b) (e2 : ∀ k, k ≠ j → f' k = f k) : RC A g nb ab eb items at_ ap en f' (W.setCell ⟨g, j, none⟩ (.string ⟨b.toArray⟩)) := by
  obtain ⟨v1, v2, a1, a2, a3, a4, a5⟩ := h.v
  have hgr : W.grownBy (W.setCell ⟨g, j, none⟩ (.string ⟨b.toArray⟩)) (some g) := ⟨rfl, rfl, rfl, by simp [World.setCell], fun i _ hn => Below.heap_setCell _ _ _ _ (fun e => hn (by rw [e]))⟩
  exact ⟨h.gr.set _ _ (.inr (.inl rfl)), h.nx.kept hgr (fun e => by cases e; exact h3 rfl), h.row.set hj b e1 e2, v1, v2, a1.kept hgr (fun e => by cases e; exact h1 rfl), a2.kept hgr (fun e => by cases e; exact h2 rfl), a3.grown hgr fun k hk e => by cases e; have := (a3.lt _ hk).1; omega, a4.grown hgr fun k hk e => by cases e; have := (a4.lt _ hk).1; omega, a5⟩
theorem RC.app1 {A W W1 : World} {g nb ab eb items at_ : Nat} {ap en ap' : List Nat} {f : Nat → List UInt8} {v1 v2 v' : Value} (hgr : Gr A W (fun b => b = g ∨ b = nb ∨ b = ab ∨ b = eb)) (hnx : Boxed W nb 3 (.int .i64 (at_ : Nat))) (hrow : BkS W g items f) (h1 : Boxed W ab 137 v1) (h2 : Boxed W eb 137 v2) (h3 : OwI (A.heap.size + 3) ap v1 W) (h4 : OwI (A.heap.size + 3) en v2 W) (h5 : ∀ k, v1.ownBlock = some k → v2.ownBlock ≠ some k)
    (hg : g < A.heap.size) (hn : nb < A.heap.size) (hb : ab < A.heap.size) (hd : eb < A.heap.size) (hnb : nb ≠ ab) (hdb : eb ≠ ab) (hgb : g ≠ ab) (hA : AppI W W1 (A.heap.size + 3) ap' v1 v') :
    RC A g nb ab eb items at_ ap' en f (W1.setCell ⟨ab, 0, none⟩ v') ∧ Boxed W1 ab 137 v1 ∧ (∀ b, b < A.heap.size + 3 → b ≠ ab → (W1.setCell ⟨ab, 0, none⟩ v').heap[b]? = W.heap[b]? ∨ W.heap.size ≤ b) := by
  have hrw : ∀ k, v1.ownBlock = some k → A.heap.size + 3 ≤ k ∧ k < W.heap.size := h3.lt
  have hsz := hgr.size
  have hB1 : Boxed W1 ab 137 v1 := h1.kept hA.grown (fun e => by have := hrw _ e.symm; omega)
  have hD1 : Boxed W1 eb 137 v2 := h2.kept hA.grown (fun e => by have := hrw _ e.symm; omega)
  have hN1 : Boxed W1 nb 3 (.int .i64 (at_ : Nat)) := hnx.kept hA.grown (fun e => by have := hrw _ e.symm; omega)
  have hR1 : BkS W1 g items f := hrow.block (hA.grown.block g (by omega) (fun e => by have := hrw _ e.symm; omega))
  have h41 : OwI (A.heap.size + 3) en v2 W1 := h4.grown hA.grown fun k hk e => h5 k e hk
  have hgs := grownBy_setCell' W1 ab v'
  refine ⟨⟨(hgr.grow hA.grown fun j e => .inl (by have := hrw j e; omega)).set _ _ (.inr (.inr (.inr (.inl rfl)))), hN1.other hnb _, hR1.block (Below.heap_setCell _ _ _ _ hgb), v', v2, hB1.set _, hD1.other hdb _, hA.own.grown hgs fun k hk e => ?_, h41.grown hgs fun k hk e => ?_, fun k hk hk2 => ?_⟩, hB1, fun b hb' hne => ?_⟩
  · cases e
    have := (hA.own.lt _ hk).1
    omega
  · cases e
    have := (h4.lt _ hk).1
    omega
  · rcases hA.blk with e | e
    · exact h5 k (e ▸ hk) hk2
    · have := e k hk
      have := (h4.lt k hk2).2
      omega
  · by_cases hbs : b < W.heap.size
    · exact .inl ((Below.heap_setCell _ _ _ b hne).trans (hA.grown.block b hbs fun e => by have := hrw b e.symm; omega))
    · exact .inr (by omega)
theorem RC.app2 {A W W1 : World} {g nb ab eb items at_ : Nat} {ap en en' : List Nat} {f : Nat → List UInt8} {v1 v2 v' : Value} (hgr : Gr A W (fun b => b = g ∨ b = nb ∨ b = ab ∨ b = eb)) (hnx : Boxed W nb 3 (.int .i64 (at_ : Nat))) (hrow : BkS W g items f) (h1 : Boxed W ab 137 v1) (h2 : Boxed W eb 137 v2) (h3 : OwI (A.heap.size + 3) ap v1 W) (h4 : OwI (A.heap.size + 3) en v2 W) (h5 : ∀ k, v1.ownBlock = some k → v2.ownBlock ≠ some k)
    (hg : g < A.heap.size) (hn : nb < A.heap.size) (hb : ab < A.heap.size) (hd : eb < A.heap.size) (hnb : nb ≠ eb) (hdb : ab ≠ eb) (hgb : g ≠ eb) (hA : AppI W W1 (A.heap.size + 3) en' v2 v') :
    RC A g nb ab eb items at_ ap en' f (W1.setCell ⟨eb, 0, none⟩ v') ∧ Boxed W1 eb 137 v2 ∧ (∀ b, b < A.heap.size + 3 → b ≠ eb → (W1.setCell ⟨eb, 0, none⟩ v').heap[b]? = W.heap[b]? ∨ W.heap.size ≤ b) := by
  have hrw : ∀ k, v2.ownBlock = some k → A.heap.size + 3 ≤ k ∧ k < W.heap.size := h4.lt
  have hsz := hgr.size
  have hB1 : Boxed W1 ab 137 v1 := h1.kept hA.grown (fun e => by have := hrw _ e.symm; omega)
  have hD1 : Boxed W1 eb 137 v2 := h2.kept hA.grown (fun e => by have := hrw _ e.symm; omega)
  have hN1 : Boxed W1 nb 3 (.int .i64 (at_ : Nat)) := hnx.kept hA.grown (fun e => by have := hrw _ e.symm; omega)
  have hR1 : BkS W1 g items f := hrow.block (hA.grown.block g (by omega) (fun e => by have := hrw _ e.symm; omega))
  have h31 : OwI (A.heap.size + 3) ap v1 W1 := h3.grown hA.grown fun k hk e => h5 k hk e
  have hgs := grownBy_setCell' W1 eb v'
  refine ⟨⟨(hgr.grow hA.grown fun j e => .inl (by have := hrw j e; omega)).set _ _ (.inr (.inr (.inr (.inr rfl)))), hN1.other hnb _, hR1.block (Below.heap_setCell _ _ _ _ hgb), v1, v', hB1.other hdb _, hD1.set _, h31.grown hgs fun k hk e => ?_, hA.own.grown hgs fun k hk e => ?_, fun k hk hk2 => ?_⟩, hD1, fun b hb' hne => ?_⟩
  · cases e
    have := (h3.lt _ hk).1
    omega
  · cases e
    have := (hA.own.lt _ hk).1
    omega
  · rcases hA.blk with e | e
    · exact h5 k hk (e ▸ hk2)
    · have := e k hk2
      have := (h3.lt k hk).2
      omega
  · by_cases hbs : b < W.heap.size
    · exact .inl ((Below.heap_setCell _ _ _ b hne).trans (hA.grown.block b hbs fun e => by have := hrw b e.symm; omega))
    · exact .inr (by omega)
end Go.Proofs.YtgloapcfmlijlaaGreatDoor
namespace Go.Proofs.YtgloapcfmlijlaaGreatDoor
open Go

namespace M
/-- The places of those that stand apart, ahead of a place. -/
def apT (ks : List (Option Nat)) (d : Nat) : List Nat := (List.range d).filter fun i => ks[i]? == some none
/-- What stands in the beginning for an item. -/
def cutB (s : List UInt8) (ks : List (Option Nat)) (i : Nat) : List UInt8 := (s.drop (hdLen (ks.take i))).take ((ks[i]?.getD none).getD 4)
def cutT (s : List UInt8) (ks : List (Option Nat)) (d i : Nat) : List UInt8 := if i < d then cutB s ks i else []
theorem take_snoc {α : Type} {l : List α} {d : Nat} {x : α} (h : l[d]? = some x) : l.take (d + 1) = l.take d ++ [x] := by
  rw [List.take_add_one, h]
  rfl
theorem hdLen_app : ∀ a b : List (Option Nat), hdLen (a ++ b) = hdLen a + hdLen b := hdLen_append
theorem hdLen_one (k : Option Nat) : hdLen [k] = k.getD 4 := by cases k <;> rfl
theorem hd_snoc {ks : List (Option Nat)} {d : Nat} {k : Option Nat} (h : ks[d]? = some k) : hdLen (ks.take (d + 1)) = hdLen (ks.take d) + k.getD 4 := by
  rw [take_snoc h, hdLen_app, hdLen_one]
theorem hd_take (ks : List (Option Nat)) (d : Nat) : hdLen (ks.take d) ≤ hdLen ks := by
  have := hdLen_app (ks.take d) (ks.drop d)
  rw [List.take_append_drop] at this
  omega
theorem offsT_app (s : List UInt8) : ∀ (a b : List (Option Nat)) (p : Nat), offsT s p (a ++ b) = offsT s p a ++ offsT s (p + hdLen a) b
  | [], b, p => by simp [offsT, hdLen]
  | some n :: a, b, p => by rw [List.cons_append, offsT, offsT, offsT_app s a b, hdLen, Nat.add_assoc]
  | none :: a, b, p => by rw [List.cons_append, offsT, offsT, offsT_app s a b, hdLen, Nat.add_assoc, List.cons_append]
theorem offs_fix {s : List UInt8} {ks : List (Option Nat)} {d z : Nat} (h : ks[d]? = some (some z)) : offsT s 0 (ks.take (d + 1)) = offsT s 0 (ks.take d) := by
  rw [take_snoc h, offsT_app]
  simp [offsT]
theorem offs_off {s : List UInt8} {ks : List (Option Nat)} {d : Nat} (h : ks[d]? = some none) : offsT s 0 (ks.take (d + 1)) = offsT s 0 (ks.take d) ++ [led ((s.drop (hdLen (ks.take d))).take 4)] := by
  rw [take_snoc h, offsT_app]
  simp [offsT]
theorem ap_fix {ks : List (Option Nat)} {d z : Nat} (h : ks[d]? = some (some z)) : apT ks (d + 1) = apT ks d := by
  unfold apT
  rw [List.range_succ, List.filter_append]
  simp [h]
theorem ap_off {ks : List (Option Nat)} {d : Nat} (h : ks[d]? = some none) : apT ks (d + 1) = apT ks d ++ [d] := by
  unfold apT
  rw [List.range_succ, List.filter_append]
  simp [h]
theorem ap_length (ks : List (Option Nat)) (d : Nat) : (apT ks d).length ≤ d := by
  unfold apT
  exact Nat.le_trans (List.length_filter_le _ _) (by simp)
theorem offs_length (s : List UInt8) : ∀ (ks : List (Option Nat)) (p : Nat), (offsT s p ks).length = ks.count none
  | [], p => rfl
  | some n :: ks, p => by rw [offsT, offs_length s ks, List.count_cons]; simp
  | none :: ks, p => by rw [offsT, List.length_cons, offs_length s ks, List.count_cons]; simp
theorem ap_count : ∀ (ks : List (Option Nat)) (d : Nat), d ≤ ks.length → (apT ks d).length = (ks.take d).count none
  | ks, 0, _ => rfl
  | ks, d + 1, h => by
    have hd : ks[d]? = some ks[d] := List.getElem?_eq_getElem (by omega)
    have ih := ap_count ks d (by omega)
    rw [take_snoc hd, List.count_append]
    cases hk : ks[d] with
    | none => rw [hk] at hd; rw [ap_off hd, List.length_append, ih]; rfl
    | some z => rw [hk] at hd; rw [ap_fix hd, ih]; simp
theorem cut_new (s : List UInt8) (ks : List (Option Nat)) (d : Nat) : cutT s ks (d + 1) d = cutB s ks d := by unfold cutT; rw [if_pos (by omega)]
theorem cut_old (s : List UInt8) (ks : List (Option Nat)) (d k : Nat) (h : k ≠ d) : cutT s ks (d + 1) k = cutT s ks d k := by
  unfold cutT
  by_cases e : k < d
  · rw [if_pos e, if_pos (by omega)]
  · rw [if_neg e, if_neg (by omega)]

/-- In order, the end behind them. -/
theorem chain_sorted (len : Nat) : ∀ (os : List Nat) (last : Nat), last ≤ hd os len → (chainT last len os = true ↔ ∀ i a b, (os ++ [len])[i]? = some a → (os ++ [len])[i + 1]? = some b → a ≤ b) ∨ os = []
  | [], last, _ => .inr rfl
  | o :: os, last, h => by
    left
    have h' : last ≤ o := h
    rw [chainT]
    rcases os with _ | ⟨o2, os⟩
    · simp [chainT, h']
      constructor
      · intro hl i a b ha hb
        cases i with
        | zero => simp at ha hb; omega
        | succ i => simp at hb
      · intro hall
        exact hall 0 o len rfl rfl
    · by_cases ho : o ≤ o2
      · rcases chain_sorted len (o2 :: os) o (by exact ho) with ih | ih
        · constructor
          · intro hc i a b ha hb
            simp only [Bool.and_eq_true, decide_eq_true_eq] at hc
            cases i with
            | zero => simp at ha hb; omega
            | succ i => exact ih.1 hc.2 i a b (by simpa using ha) (by simpa using hb)
          · intro hall
            have h2 : chainT o len (o2 :: os) = true := ih.2 fun i a b ha hb => hall (i + 1) a b (by simpa using ha) (by simpa using hb)
            have h3 := h2
            rw [chainT] at h3
            simp only [Bool.and_eq_true, decide_eq_true_eq] at h3 ⊢
            exact ⟨⟨h', by omega⟩, h2⟩
        · cases ih
      · constructor
        · intro hc
          rw [chainT] at hc
          simp only [Bool.and_eq_true, decide_eq_true_eq] at hc
          omega
        · intro hall
          have := hall 0 o o2 rfl rfl
          omega
theorem all_sorted (e : List Nat) : (List.range (e.length - 1)).all (fun i => decide (e.getD i 0 ≤ e.getD (i + 1) 0)) = true ↔ ∀ i a b, e[i]? = some a → e[i + 1]? = some b → a ≤ b := by
  rw [List.all_eq_true]
  constructor
  · intro h i a b ha hb
    have hi := (List.getElem?_eq_some_iff.1 hb).1
    have := h i (List.mem_range.2 (by omega))
    simp only [decide_eq_true_eq, List.getD_eq_getElem?_getD, ha, hb, Option.getD_some] at this
    exact this
  · intro h i hi
    rw [List.mem_range] at hi
    simp only [decide_eq_true_eq, List.getD_eq_getElem?_getD]
    rw [List.getElem?_eq_getElem (show i < e.length by omega), List.getElem?_eq_getElem (show i + 1 < e.length by omega)]
    exact h i _ _ (List.getElem?_eq_getElem (by omega)) (List.getElem?_eq_getElem (by omega))
theorem ok_row (ks : List (Option Nat)) (s : List UInt8) : okRow ks s = (decide (hdLen ks ≤ s.length) && (decide ((offsT s 0 ks ++ [s.length]).getD 0 0 = hdLen ks) && (List.range ((offsT s 0 ks ++ [s.length]).length - 1)).all fun i => decide ((offsT s 0 ks ++ [s.length]).getD i 0 ≤ (offsT s 0 ks ++ [s.length]).getD (i + 1) 0))) := by
  have hh : (offsT s 0 ks ++ [s.length]).getD 0 0 = hd (offsT s 0 ks) s.length := by cases offsT s 0 ks <;> rfl
  rw [hh]
  unfold okRow
  by_cases h1 : hdLen ks ≤ s.length
  · by_cases h2 : hd (offsT s 0 ks) s.length = hdLen ks
    · rw [decide_eq_true h1, decide_eq_true h2, Bool.true_and, Bool.true_and, Bool.true_and]
      rw [Bool.eq_iff_iff, Bool.true_and, all_sorted]
      rcases chain_sorted s.length (offsT s 0 ks) (hdLen ks) (by omega) with h | h
      · exact h
      · rw [h]
        constructor
        · intro _ i a b ha hb
          simp at hb
        · intro _; rfl
    · rw [decide_eq_false h2]; simp
  · rw [decide_eq_false h1]; simp
/-- Where an item's bytes are, by its place. -/
theorem parts_get (s : List UInt8) : ∀ (ks : List (Option Nat)) (p : Nat) (os : List Nat) (i : Nat) (k : Option Nat), os.length = ks.count none → ks[i]? = some k →
    (partsT s p ks os)[i]? = some (match k with
      | some n => (s.drop (p + hdLen (ks.take i))).take n
      | none => (s.drop ((os ++ [s.length]).getD ((ks.take i).count none) 0)).take ((os ++ [s.length]).getD ((ks.take i).count none + 1) 0 - (os ++ [s.length]).getD ((ks.take i).count none) 0))
  | [], p, os, i, k, _, h => by simp at h
  | some n :: ks, p, os, i, k, hl, h => by
    have hl' : os.length = ks.count none := by rw [hl, List.count_cons]; simp
    rw [partsT]
    cases i with
    | zero => cases h; simp [hdLen]
    | succ i =>
      have := parts_get s ks (p + n) os i k hl' (by simpa using h)
      rw [List.getElem?_cons_succ, this, List.take_succ_cons, hdLen, List.count_cons]
      simp [Nat.add_assoc]
  | none :: ks, p, [], i, k, hl, h => by rw [List.count_cons] at hl; simp at hl
  | none :: ks, p, o :: os, i, k, hl, h => by
    have hl' : os.length = ks.count none := by rw [List.count_cons] at hl; simpa using hl
    rw [partsT]
    cases i with
    | zero =>
      cases h
      have hh : (os ++ [s.length]).getD 0 0 = hd os s.length := by cases os <;> rfl
      simp only [List.getElem?_cons_zero, List.take_zero, List.count_nil, List.cons_append, List.getD_cons_zero, List.getD_cons_succ, hh]
    | succ i =>
      have := parts_get s ks (p + 4) os i k hl' (by simpa using h)
      rw [List.getElem?_cons_succ, this, List.take_succ_cons, hdLen, List.count_cons]
      cases k with
      | some n => simp [Nat.add_assoc]
      | none => simp
/-- Behind so many rounds of the second loop. -/
def cutE (s : List UInt8) (ks : List (Option Nat)) (j i : Nat) : List UInt8 :=
  if ks[i]? = some none ∧ (ks.take i).count none < j then (s.drop ((offsT s 0 ks ++ [s.length]).getD ((ks.take i).count none) 0)).take ((offsT s 0 ks ++ [s.length]).getD ((ks.take i).count none + 1) 0 - (offsT s 0 ks ++ [s.length]).getD ((ks.take i).count none) 0) else cutT s ks ks.length i
theorem cutE_zero (s : List UInt8) (ks : List (Option Nat)) (i : Nat) : cutE s ks 0 i = cutT s ks ks.length i := by unfold cutE; rw [if_neg (by omega)]
/-- The place of one that stands apart. -/
theorem ap_get : ∀ (ks : List (Option Nat)) (d j i : Nat), d ≤ ks.length → (apT ks d)[j]? = some i → i < d ∧ ks[i]? = some none ∧ (ks.take i).count none = j
  | ks, 0, j, i, _, h => by simp [apT] at h
  | ks, d + 1, j, i, hd, h => by
    have hg : ks[d]? = some ks[d] := List.getElem?_eq_getElem (by omega)
    cases hk : ks[d] with
    | some z =>
      rw [hk] at hg
      rw [ap_fix hg] at h
      obtain ⟨h1, h2, h3⟩ := ap_get ks d j i (by omega) h
      exact ⟨by omega, h2, h3⟩
    | none =>
      rw [hk] at hg
      rw [ap_off hg] at h
      rcases Nat.lt_or_ge j (apT ks d).length with hj | hj
      · rw [List.getElem?_append_left hj] at h
        obtain ⟨h1, h2, h3⟩ := ap_get ks d j i (by omega) h
        exact ⟨by omega, h2, h3⟩
      · rw [List.getElem?_append_right hj] at h
        have hj0 : j - (apT ks d).length = 0 := by
          have := (List.getElem?_eq_some_iff.1 h).1
          simp at this
          exact this
        rw [hj0] at h
        cases h
        refine ⟨by omega, hg, ?_⟩
        rw [← ap_count ks d (by omega)]
        omega
theorem count_lt {ks : List (Option Nat)} {a b : Nat} (h : ks[a]? = some none) (hab : a < b) : (ks.take a).count none < (ks.take b).count none := by
  have h1 : (ks.take (a + 1)).count none = (ks.take a).count none + 1 := by rw [take_snoc h, List.count_append]; rfl
  have h2 : (ks.take (a + 1)).count none ≤ (ks.take b).count none := List.Sublist.count_le _ (List.take_sublist_take_left (by omega))
  omega
theorem cutE_step {s : List UInt8} {ks : List (Option Nat)} {j i : Nat} (h : (apT ks ks.length)[j]? = some i) :
    cutE s ks (j + 1) i = (s.drop ((offsT s 0 ks ++ [s.length]).getD j 0)).take ((offsT s 0 ks ++ [s.length]).getD (j + 1) 0 - (offsT s 0 ks ++ [s.length]).getD j 0) ∧ ∀ k, k ≠ i → cutE s ks (j + 1) k = cutE s ks j k := by
  obtain ⟨h1, h2, h3⟩ := ap_get ks ks.length j i (Nat.le_refl _) h
  refine ⟨by unfold cutE; rw [if_pos ⟨h2, by omega⟩, h3], fun k hk => ?_⟩
  unfold cutE
  by_cases e : ks[k]? = some none
  · have hne : (ks.take k).count none ≠ j := by
      intro he
      rcases Nat.lt_or_ge k i with hlt | hge
      · have := count_lt e hlt; omega
      · have := count_lt h2 (show i < k by omega); omega
    by_cases hl : (ks.take k).count none < j
    · rw [if_pos ⟨e, by omega⟩, if_pos ⟨e, hl⟩]
    · rw [if_neg (by omega), if_neg (by omega)]
  · rw [if_neg (fun h => e h.1), if_neg (fun h => e h.1)]
/-- In the end they are the row's parts. -/
theorem cutE_all (s : List UInt8) (ks : List (Option Nat)) {i : Nat} (hi : i < ks.length) : (partsT s 0 ks (offsT s 0 ks))[i]? = some (cutE s ks (apT ks ks.length).length i) := by
  have hg : ks[i]? = some ks[i] := List.getElem?_eq_getElem hi
  rw [parts_get s ks 0 (offsT s 0 ks) i ks[i] (offs_length s ks 0) hg]
  congr 1
  unfold cutE
  cases hk : ks[i] with
  | none =>
    rw [hk] at hg
    have := count_lt hg hi
    rw [if_pos ⟨hg, by rw [ap_count ks ks.length (Nat.le_refl _)]; exact this⟩]
  | some z =>
    rw [hk] at hg
    rw [if_neg (by rw [hg]; simp)]
    unfold cutT cutB
    rw [if_pos hi, hg]
    simp
end M
end Go.Proofs.YtgloapcfmlijlaaGreatDoor
