/- FieldWrites, under what the calls of package field must do. -/
import Derived.Test.YtebkmlbpngpmdaaDoorG3g
import Derived.Test.YtebkmlbpngpmdaaDoorG11g
import Derived.Test.YtebkmlbpngpmdaaDoorC7g
namespace Go.Proofs.YtebkmlbpngpmdaaDoor
open Go Go.RowKit

theorem same_flat (d : List UInt8) (W : World) : Calls Tryd.prog 7 #[iv false d (.slice none 0 0), iv false d (.slice none 0 0)] W fun e w' => e = .returned (.bool true) ∧ Below W.heap.size W w' := by
  have := rsame_n (SizeOf.sizeOf ([] : List M.It)) false false d d [] [] (.slice none 0 0) (.slice none 0 0) W (Nat.le_refl _) (.nil_ (by decide)) (.nil_ (by decide)) (by simp) (by simp) (by decide) (by decide)
  rwa [(M.sameI_iff _ _).2 rfl] at this
theorem same_texts (ls : List (List UInt8)) (a b : Option Addr) (c e : Nat) (W : World) (hl : ls.length ≤ 600) (hL : Lay W W.heap.size (ls.map M.textI) (.slice a ls.length c)) (hM : Lay W W.heap.size (ls.map M.textI) (.slice b ls.length e)) :
    Calls Tryd.prog 7 #[iv true [] (.slice a ls.length c), iv true [] (.slice b ls.length e)] W fun e w' => e = .returned (.bool true) ∧ Below W.heap.size W w' := by
  have hc : M.cntIs (ls.map M.textI) ≤ 1000 := by rw [texts_cnt]; omega
  have hn : (ls.map M.textI).length ≤ 1000 := by rw [List.length_map]; omega
  have := rsame_n (SizeOf.sizeOf (ls.map M.textI)) true true [] [] (ls.map M.textI) (ls.map M.textI) _ _ W (Nat.le_refl _) hL hM hn hn hc hc
  rwa [(M.sameI_iff _ _).2 rfl] at this

theorem flist_two (HF : Hid Fields) (d s : List UInt8) (hd : d.length ≤ 300) (hs : s.length ≤ 300) (a : Option Addr) (W : World) (hL : Lay W W.heap.size ([d, s].map M.textI) (.slice a 2 2)) :
    Calls Tryd.prog 18 #[.slice a 2 2] W fun e w' => (∃ a' cap', e = .returned (iv true [] (.slice a' 2 cap')) ∧ Lay w' w'.heap.size ([d, s].map M.textI) (.slice a' 2 cap')) ∧ Below W.heap.size W w' := by
  have hlong : ∀ t ∈ [d, s], t.length ≤ longS := fun t ht => by
    unfold longS
    simp at ht
    rcases ht with h | h <;> rw [h] <;> omega
  exact HF.out.list [d, s] a 2 W hL (by show 2 ≤ 600; omega) hlong
theorem rlist_two (d s : List UInt8) (a : Option Addr) (W : World) (hL : Lay W W.heap.size ([d, s].map M.textI) (.slice a 2 2)) :
    Calls Tryd.prog 19 #[.slice a 2 2] W fun e w' => (e = .returned (iv true [] (.slice a 2 2)) ∧ Lay w' w'.heap.size ([d, s].map M.textI) (.slice a 2 2)) ∧ Below W.heap.size W w' := rf_list [d, s] a 2 W hL
theorem same_two (d s : List UInt8) (a b : Option Addr) (c e : Nat) (W : World) (hL : Lay W W.heap.size ([d, s].map M.textI) (.slice a 2 c)) (hM : Lay W W.heap.size ([d, s].map M.textI) (.slice b 2 e)) :
    Calls Tryd.prog 7 #[iv true [] (.slice a 2 c), iv true [] (.slice b 2 e)] W fun e w' => e = .returned (.bool true) ∧ Below W.heap.size W w' := same_texts [d, s] a b c e W (by show 2 ≤ 600; omega) hL hM

set_option maxRecDepth 100000 in
set_option maxHeartbeats 8000000 in
theorem fwrites_law (HF : Hid Fields) (n N : Nat) (s : List UInt8) (v : Bool) (ls : List (List UInt8)) (a : Option Addr) (cap : Nat) (w : World) (hn : n < 18446744073709551616) (hN : Hid (M.In N)) (hL : Ts w w.heap.size ls (.slice a ls.length cap)) (hlong : ∀ t ∈ ls, t.length ≤ longS) :
    Calls Tryd.prog 3 #[.int .u64 n, wn N, .string ⟨s.toArray⟩, .bool v, .slice a ls.length cap] w fun e w' => e = .returned (.bool true) ∧ Below w.heap.size w w' := by
  obtain ⟨w0, hw0⟩ : ∃ w0, w.alloc (.cells #[.int .u64 (M.pt 0 N), .int .u64 (M.pt 1 N), .int .u64 (M.pt 2 N), .int .u64 (M.pt 3 N)] 24) = w0 := ⟨_, rfl⟩
  have hb0 : Below w.heap.size w w0 := by rw [← hw0]; (repeat (first | exact Below.refl _ _ | refine Below.drew ?_ | refine Below.alloc ?_ (by first | omega | (simp; omega) | simp) _ | refine Below.setCell ?_ (by first | omega | (simp; omega) | simp) _))
  have hz0 : w0.heap.size = w.heap.size + 1 := by rw [← hw0]; simp
  have a0 : w0.cell? ⟨w.heap.size, 0, none⟩ = some (.int .u64 (M.pt 0 N)) := by rw [← hw0]; simp [go_sem]
  have a1 : w0.cell? ⟨w.heap.size, 1, none⟩ = some (.int .u64 (M.pt 1 N)) := by rw [← hw0]; simp [go_sem]
  have a2 : w0.cell? ⟨w.heap.size, 2, none⟩ = some (.int .u64 (M.pt 2 N)) := by rw [← hw0]; simp [go_sem]
  have a3 : w0.cell? ⟨w.heap.size, 3, none⟩ = some (.int .u64 (M.pt 3 N)) := by rw [← hw0]; simp [go_sem]
  have HL := Lib.hid hL
  have HG := Lib.hid hlong
  have HW := Lib.hid hw0
  clear hw0 hL hlong
  go_enter Tryd.func3, Tryd.ntmps3
  go_wp2_with fail
  rw [HW.out]
  refine (fworks HF _).mono ?_
  rintro e w1 ⟨rfl, hb1⟩
  have B1 := hb0.trans (hb1.mono (by omega))
  by_cases hs : 300 < s.length
  · have hs' : (300 : Int) < (s.length : Nat) := by omega
    go_wp2_with fail
    go_ret
    exact ⟨rfl, B1⟩
  · have hs' : ¬ (300 : Int) < (s.length : Nat) := by omega
    by_cases hl : 40 < ls.length
    · have hl' : (40 : Int) < (ls.length : Nat) := by omega
      go_wp2_with fail
      go_ret
      exact ⟨rfl, B1⟩
    · have hl' : ¬ (40 : Int) < (ls.length : Nat) := by omega
      have k1 := Lib.hid (fun W => HF.out.number n W hn)
      have k2 := Lib.hid (fun W => rf_number n W hn)
      have k3 := Lib.hid (fun W => HF.out.word N W hN.out)
      have k4 := Lib.hid (fun W => rf_word N W hN.out)
      have k5 := Lib.hid (fun W => HF.out.text s W (Nat.le_trans (Nat.not_lt.1 hs) (by decide)))
      have k6 := Lib.hid (fun W => rf_text s W)
      have k7 := Lib.hid (fun W => HF.out.bool_ v W)
      have k8 := Lib.hid (fun W => rf_bool v W)
      generalize M.tr (M.f32 N) = wb at *
      generalize (if v then ([1] : List UInt8) else []) = vb at *
      have cl : ∀ W o u, Below w1.heap.size w1 W → w0.cell? ⟨w.heap.size, o, none⟩ = some u → W.cell? ⟨w.heap.size, o, none⟩ = some u := fun W o u h hc => ((hb1.trans (h.mono hb1.size)).cell (p := ⟨w.heap.size, o, none⟩) (by simp; omega)).trans hc
      have CL := Lib.hid cl
      clear cl
      go_wp2_with fail
      have mixed : Tryd.prog.follows .mixedOrders = true := by kernel_rfl
      refine region_quiet (C := fun W => Below w1.heap.size w1 W) mixed (by kernel_rfl) (Below.drew (Below.refl _ _)) ?_
      refine quiet_val (.int .u64 n) (by rfl) (fun W hC => by go_simp) ?_
      simp only [Act.put, List.setIfInBounds_toArray, List.set_cons_zero, List.set_cons_succ]
      refine quiet_call (iv false (M.ben n) (.slice none 0 0)) 8 #[.int .u64 n] (by rfl) (fun W _ => by go_simp) (fun W hC => (k1.out W).mono fun _ _ h => ⟨h.1, hC.trans (h.2.mono hC.size)⟩) ?_
      simp only [Act.put, List.setIfInBounds_toArray, List.set_cons_zero, List.set_cons_succ]
      refine quiet_val (.int .u64 n) (by rfl) (fun W hC => by go_simp) ?_
      simp only [Act.put, List.setIfInBounds_toArray, List.set_cons_zero, List.set_cons_succ]
      refine quiet_call (iv false (M.ben n) (.slice none 0 0)) 9 #[.int .u64 n] (by rfl) (fun W _ => by go_simp) (fun W hC => (k2.out W).mono fun _ _ h => ⟨h.1, hC.trans (h.2.mono hC.size)⟩) ?_
      simp only [Act.put, List.setIfInBounds_toArray, List.set_cons_zero, List.set_cons_succ]
      refine quiet_call (.bool true) 7 #[iv false (M.ben n) (.slice none 0 0), iv false (M.ben n) (.slice none 0 0)] (by rfl) (fun W _ => by go_simp) (fun W hC => (same_flat _ W).mono fun _ _ h => ⟨h.1, hC.trans (h.2.mono hC.size)⟩) ?_
      simp only [Act.put, List.setIfInBounds_toArray, List.set_cons_zero, List.set_cons_succ]
      refine quiet_val (.bool true) (by rfl) (fun W hC => by go_simp) ?_
      simp only [Act.put, List.setIfInBounds_toArray, List.set_cons_zero, List.set_cons_succ]
      refine quiet_val (wn N) (by rfl) (fun W hC => by have b0 := CL.out W _ _ hC a0; have b1 := CL.out W _ _ hC a1; have b2 := CL.out W _ _ hC a2; have b3 := CL.out W _ _ hC a3; go_simp) ?_
      simp only [Act.put, List.setIfInBounds_toArray, List.set_cons_zero, List.set_cons_succ]
      refine quiet_call (iv false wb (.slice none 0 0)) 10 #[wn N] (by rfl) (fun W _ => by go_simp) (fun W hC => (k3.out W).mono fun _ _ h => ⟨h.1, hC.trans (h.2.mono hC.size)⟩) ?_
      simp only [Act.put, List.setIfInBounds_toArray, List.set_cons_zero, List.set_cons_succ]
      refine quiet_val (wn N) (by rfl) (fun W hC => by have b0 := CL.out W _ _ hC a0; have b1 := CL.out W _ _ hC a1; have b2 := CL.out W _ _ hC a2; have b3 := CL.out W _ _ hC a3; go_simp) ?_
      simp only [Act.put, List.setIfInBounds_toArray, List.set_cons_zero, List.set_cons_succ]
      refine quiet_call (iv false wb (.slice none 0 0)) 11 #[wn N] (by rfl) (fun W _ => by go_simp) (fun W hC => (k4.out W).mono fun _ _ h => ⟨h.1, hC.trans (h.2.mono hC.size)⟩) ?_
      simp only [Act.put, List.setIfInBounds_toArray, List.set_cons_zero, List.set_cons_succ]
      refine quiet_call (.bool true) 7 #[iv false wb (.slice none 0 0), iv false wb (.slice none 0 0)] (by rfl) (fun W _ => by go_simp) (fun W hC => (same_flat _ W).mono fun _ _ h => ⟨h.1, hC.trans (h.2.mono hC.size)⟩) ?_
      simp only [Act.put, List.setIfInBounds_toArray, List.set_cons_zero, List.set_cons_succ]
      refine quiet_val (.bool true) (by rfl) (fun W hC => by go_simp) ?_
      simp only [Act.put, List.setIfInBounds_toArray, List.set_cons_zero, List.set_cons_succ]
      refine quiet_val (.bool true) (by rfl) (fun W hC => by go_simp) ?_
      simp only [Act.put, List.setIfInBounds_toArray, List.set_cons_zero, List.set_cons_succ]
      refine wpQuiet_nil ?_
      intro w2 hb2
      clear mixed CL a0 a1 a2 a3 k3 k4
      have B2 := B1.trans (hb2.mono B1.size)
      clear hb1 hb2 hb0
      go_wp2_with fail
      refine (k5.out _).mono ?_
      rintro e w3 ⟨rfl, hb3⟩
      go_wp2_with fail
      refine (k6.out _).mono ?_
      rintro e w4 ⟨rfl, hb4⟩
      go_wp2_with fail
      refine (same_flat _ _).mono ?_
      rintro e w5 ⟨rfl, hb5⟩
      go_wp2_with fail
      refine (k7.out _).mono ?_
      rintro e w6 ⟨rfl, hb6⟩
      go_wp2_with fail
      refine (k8.out _).mono ?_
      rintro e w7 ⟨rfl, hb7⟩
      go_wp2_with fail
      refine (same_flat _ _).mono ?_
      rintro e w8 ⟨rfl, hb8⟩
      have hb28 : Below w2.heap.size w2 w8 := hb3.trans ((hb4.trans ((hb5.trans ((hb6.trans ((hb7.trans (hb8.mono hb7.size)).mono hb6.size)).mono hb5.size)).mono hb4.size)).mono hb3.size)
      have B8 := B2.trans (hb28.mono B2.size)
      clear hb3 hb4 hb5 hb6 hb7 hb8 hb28 B2 k7 k8
      have hz8 := B8.size
      have T8 := Lib.hid ((HL.out.from_ B8).mono hz8)
      have k9 := Lib.hid (HF.out.texts ls a cap w8 T8.out (by omega) HG.out)
      have hl6 : ls.length ≤ 600 := by omega
      go_wp2_with fail
      refine k9.out.mono ?_
      rintro e w9 ⟨⟨a9, c9, rfl, hL9⟩, hb9⟩
      have T9 := Lib.hid ((T8.out.from_ hb9).mono hb9.size)
      have k10 := Lib.hid (rf_texts ls a cap w9 T9.out hl6)
      go_wp2_with fail
      refine k10.out.mono ?_
      rintro e w10 ⟨⟨a10, c10, rfl, hL10⟩, hb10⟩
      have k11 := Lib.hid (same_texts ls a9 a10 c9 c10 w10 hl6 ((hL9.from_ hb10).mono hb10.size) hL10)
      go_wp2_with fail
      refine k11.out.mono ?_
      rintro e w11 ⟨rfl, hb11⟩
      have B11 := B8.trans ((hb9.trans ((hb10.trans (hb11.mono hb10.size)).mono hb9.size)).mono hz8)
      clear hb9 hb10 hb11 hL9 hL10 k9 k10 k11 T8 T9 B8
      go_wp2_with fail
      refine (k1.out _).mono ?_
      rintro e w12 ⟨rfl, hb12⟩
      go_wp2_with fail
      refine (k5.out _).mono ?_
      rintro e w13 ⟨rfl, hb13⟩
      have B13 := B11.trans ((hb12.trans (hb13.mono hb12.size)).mono B11.size)
      clear hb12 hb13 B11
      go_wp2_with fail
      obtain ⟨w14, hw14⟩ : ∃ x, w13.alloc (.cells #[.bool false, .string ⟨(M.ben n).toArray⟩, .slice none 0 0, .bool false, .string ⟨s.toArray⟩, .slice none 0 0] 30) = x := ⟨_, rfl⟩
      have hbw14 : Below w13.heap.size w13 w14 := by rw [← hw14]; exact (Below.refl _ _).alloc (Nat.le_refl _) _
      have hlw14 : Lay w14 w14.heap.size ([M.ben n, s].map M.textI) (.slice (some ⟨w13.heap.size, 0, none⟩) 2 2) := by
        have := two_lay w13 (M.ben n) s 30 (w13.heap.size + 1) (by omega)
        rw [hw14] at this
        exact this.mono (by rw [← hw14]; simp)
      rw [hw14]
      have k12 := Lib.hid (flist_two HF (M.ben n) s (Nat.le_trans (M.ben_le hn) (by decide)) (by omega) _ w14 hlw14)
      refine k12.out.mono ?_
      rintro e w15 ⟨⟨a15, c15, rfl, hL15⟩, hb15⟩
      have B15 := B13.trans ((hbw14.trans (hb15.mono hbw14.size)).mono B13.size)
      clear hw14 hlw14 k12 hbw14 hb15 B13
      go_wp2_with fail
      refine (k2.out _).mono ?_
      rintro e w16 ⟨rfl, hb16⟩
      go_wp2_with fail
      refine (k6.out _).mono ?_
      rintro e w17 ⟨rfl, hb17⟩
      go_wp2_with fail
      obtain ⟨w18, hw18⟩ : ∃ x, w17.alloc (.cells #[.bool false, .string ⟨(M.ben n).toArray⟩, .slice none 0 0, .bool false, .string ⟨s.toArray⟩, .slice none 0 0] 30) = x := ⟨_, rfl⟩
      have hbw18 : Below w17.heap.size w17 w18 := by rw [← hw18]; exact (Below.refl _ _).alloc (Nat.le_refl _) _
      have hlw18 : Lay w18 w18.heap.size ([M.ben n, s].map M.textI) (.slice (some ⟨w17.heap.size, 0, none⟩) 2 2) := by
        have := two_lay w17 (M.ben n) s 30 (w17.heap.size + 1) (by omega)
        rw [hw18] at this
        exact this.mono (by rw [← hw18]; simp)
      rw [hw18]
      have k13 := Lib.hid (rlist_two (M.ben n) s _ w18 hlw18)
      refine k13.out.mono ?_
      rintro e w19 ⟨⟨rfl, hL19⟩, hb19⟩
      have hb1519 := hb16.trans ((hb17.trans ((hbw18.trans (hb19.mono hbw18.size)).mono hb17.size)).mono hb16.size)
      have k14 := Lib.hid (same_two (M.ben n) s _ _ _ _ w19 ((hL15.from_ hb1519).mono hb1519.size) hL19)
      have B19 := B15.trans (hb1519.mono B15.size)
      clear hw18 hlw18 k13 hbw18 hb16 hb17 hb19 hb1519 hL15 hL19 B15
      go_wp2_with fail
      refine k14.out.mono ?_
      rintro e w20 ⟨rfl, hb20⟩
      have BE := Lib.hid (B19.trans (hb20.mono B19.size))
      clear B19 hb20 k14
      go_wp2_with fail
      go_ret
      exact ⟨rfl, BE.out⟩
end Go.Proofs.YtebkmlbpngpmdaaDoor
