/- FieldBack, under what the calls of package field must do. -/
import Derived.Test.YtebkmlbpngpmdaaDoorG3g
namespace Go.Proofs.YtebkmlbpngpmdaaDoor
open Go Go.RowKit

theorem texts_forms : ∀ (ls : List (List UInt8)) (d : Nat), M.formIs d (ls.map M.textI) = 0
  | [], _ => rfl
  | s :: ls, d => by
    have h : M.formI d (M.textI s) = 0 := by simp [M.textI, M.formI]
    rw [List.map_cons, M.formIs, h, if_neg (by simp)]
    exact texts_forms ls d
theorem texts_form (ls : List (List UInt8)) (h : ls.length ≤ 512) : M.formI 0 (.mk true [] (ls.map M.textI)) = 0 := by
  rw [M.formI, if_neg (by simp), if_neg (by simp), if_neg (by omega), if_neg (by rw [List.length_map]; omega)]
  exact texts_forms ls 1
set_option maxRecDepth 100000 in
set_option maxHeartbeats 8000000 in
theorem fback_law (HF : Hid Fields) (n N : Nat) (s : List UInt8) (v : Bool) (ls : List (List UInt8)) (a : Option Addr) (cap : Nat) (w : World) (hn : n < 18446744073709551616) (hN : Hid (M.In N)) (hL : Ts w w.heap.size ls (.slice a ls.length cap)) (hlong : ∀ t ∈ ls, t.length ≤ longS) :
    Calls Tryd.prog 4 #[.int .u64 n, wn N, .string ⟨s.toArray⟩, .bool v, .slice a ls.length cap] w fun e w' => e = .returned (.bool true) ∧ Below w.heap.size w w' := by
  obtain ⟨w0, hw0⟩ : ∃ w0, w.alloc (.cells #[.int .u64 (M.pt 0 N), .int .u64 (M.pt 1 N), .int .u64 (M.pt 2 N), .int .u64 (M.pt 3 N)] 24) = w0 := ⟨_, rfl⟩
  have hb0 : Below w.heap.size w w0 := by rw [← hw0]; (repeat (first | exact Below.refl _ _ | refine Below.drew ?_ | refine Below.alloc ?_ (by first | omega | (simp; omega) | simp) _ | refine Below.setCell ?_ (by first | omega | (simp; omega) | simp) _))
  have hz0 : w0.heap.size = w.heap.size + 1 := by rw [← hw0]; simp
  have a0 : w0.cell? ⟨w.heap.size, 0, none⟩ = some (.int .u64 (M.pt 0 N)) := by rw [← hw0]; simp [go_sem]
  have a1 : w0.cell? ⟨w.heap.size, 1, none⟩ = some (.int .u64 (M.pt 1 N)) := by rw [← hw0]; simp [go_sem]
  have a2 : w0.cell? ⟨w.heap.size, 2, none⟩ = some (.int .u64 (M.pt 2 N)) := by rw [← hw0]; simp [go_sem]
  have a3 : w0.cell? ⟨w.heap.size, 3, none⟩ = some (.int .u64 (M.pt 3 N)) := by rw [← hw0]; simp [go_sem]
  have HL := Lib.hid hL
  have HG := Lib.hid hlong
  have HW := Lib.hid hw0
  clear hw0 hL hlong
  go_enter Tryd.func4, Tryd.ntmps4
  go_wp2_with fail
  rw [HW.out]
  refine (fworks HF _).mono ?_
  rintro e w1 ⟨rfl, hb1⟩
  have B1 := hb0.trans (hb1.mono (by omega))
  by_cases hs : 300 < s.length
  · have hs' : (300 : Int) < (s.length : Nat) := by omega
    go_wp2_with fail
    go_ret
    exact ⟨rfl, B1⟩
  · have hs' : ¬ (300 : Int) < (s.length : Nat) := by omega
    by_cases hl : 40 < ls.length
    · have hl' : (40 : Int) < (ls.length : Nat) := by omega
      go_wp2_with fail
      go_ret
      exact ⟨rfl, B1⟩
    · have hl' : ¬ (40 : Int) < (ls.length : Nat) := by omega
      have k1 := Lib.hid (fun W => HF.out.number n W hn)
      have k2 := Lib.hid (fun W => HF.out.gNumber false (M.ben n) [] none 0 W (Rd.text W _ (Nat.le_trans (M.ben_le hn) (by decide))))
      rw [show M.getNumber (.mk false (M.ben n) []) = (n, 0) from M.number_back hn] at k2
      have k3 := Lib.hid (fun W => HF.out.word N W hN.out)
      have k4 := Lib.hid (fun W => HF.out.gWord false (M.tr (M.f32 N)) [] none 0 W (Rd.text W _ (Nat.le_trans (M.tr_length_le _) (by rw [M.f32_length]; decide))))
      rw [show M.getWord (.mk false (M.tr (M.f32 N)) []) = (N, 0) from M.word_back hN.out] at k4
      have k5 := Lib.hid (fun W => HF.out.text s W (Nat.le_trans (Nat.not_lt.1 hs) (by decide)))
      have k6 := Lib.hid (fun W => HF.out.gText false s [] none 0 s.length s.length W (Rd.text W _ (Nat.le_trans (Nat.not_lt.1 hs) (by decide))))
      rw [show M.getText s.length s.length (.mk false s []) = (s, 0) from M.text_back s] at k6
      have k7 := Lib.hid (fun W => HF.out.bool_ v W)
      have k8 := Lib.hid (fun W => HF.out.gBool false (if v then [1] else []) [] none 0 W (Rd.text W _ (by cases v <;> decide)))
      rw [show M.getBool (.mk false (if v then [1] else []) []) = (v, 0) from M.bool_back v] at k8
      generalize M.ben n = bn at *
      generalize M.tr (M.f32 N) = wb at *
      generalize (if v then ([1] : List UInt8) else []) = vb at *
      have cl : ∀ W o u, Below w0.heap.size w0 W → w0.cell? ⟨w.heap.size, o, none⟩ = some u → W.cell? ⟨w.heap.size, o, none⟩ = some u := fun W o u h hc => (h.cell (p := ⟨w.heap.size, o, none⟩) (by simp; omega)).trans hc
      have CL := Lib.hid cl
      clear cl
      go_wp2_with fail
      refine (k1.out _).mono ?_
      rintro e w2 ⟨rfl, hb2⟩
      go_wp2_with fail
      refine (k2.out _).mono ?_
      rintro e w3 ⟨rfl, hb3⟩
      have B3 := hb1.trans ((hb2.trans (hb3.mono hb2.size)).mono hb1.size)
      have c0 := CL.out _ _ _ B3 a0
      have c1 := CL.out _ _ _ B3 a1
      have c2 := CL.out _ _ _ B3 a2
      have c3 := CL.out _ _ _ B3 a3
      clear k1 k2 hb2 hb3
      have eqw : ∀ w : World, (Op.equalIn 10000 24 (wn N) (wn N)).run Tryd.prog w = .ok true w := fun w => by rw [eqN hN.out hN.out, decide_eq_true rfl]
      go_wp2_with fail
      refine (k3.out _).mono ?_
      rintro e w4 ⟨rfl, hb4⟩
      go_wp2_with fail
      refine (k4.out _).mono ?_
      rintro e w5 ⟨rfl, hb5⟩
      have B5 := B3.trans ((hb4.trans (hb5.mono hb4.size)).mono B3.size)
      obtain ⟨w6, hw6⟩ : ∃ w6, w5.alloc (.cells #[.int .u64 (M.pt 0 N), .int .u64 (M.pt 1 N), .int .u64 (M.pt 2 N), .int .u64 (M.pt 3 N)] 24) = w6 := ⟨_, rfl⟩
      have hb6 : Below w5.heap.size w5 w6 := by rw [← hw6]; (repeat (first | exact Below.refl _ _ | refine Below.drew ?_ | refine Below.alloc ?_ (by first | omega | (simp; omega) | simp) _ | refine Below.setCell ?_ (by first | omega | (simp; omega) | simp) _))
      have d0 : w6.cell? ⟨w5.heap.size, 0, none⟩ = some (.int .u64 (M.pt 0 N)) := by rw [← hw6]; simp [go_sem]
      have d1 : w6.cell? ⟨w5.heap.size, 1, none⟩ = some (.int .u64 (M.pt 1 N)) := by rw [← hw6]; simp [go_sem]
      have d2 : w6.cell? ⟨w5.heap.size, 2, none⟩ = some (.int .u64 (M.pt 2 N)) := by rw [← hw6]; simp [go_sem]
      have d3 : w6.cell? ⟨w5.heap.size, 3, none⟩ = some (.int .u64 (M.pt 3 N)) := by rw [← hw6]; simp [go_sem]
      have hz6 : w6.heap.size = w5.heap.size + 1 := by rw [← hw6]; simp
      have B6 := B5.trans (hb6.mono B5.size)
      have HW6 := Lib.hid hw6
      clear hw6 k3 k4 hb4 hb5 B3 c0 c1 c2 c3
      go_wp2_with fail
      rw [HW6.out]
      refine (k5.out _).mono ?_
      rintro e w7 ⟨rfl, hb7⟩
      go_wp2_with fail
      refine (k6.out _).mono ?_
      rintro e w8 ⟨rfl, hb8⟩
      go_wp2_with fail
      refine (k7.out _).mono ?_
      rintro e w9 ⟨rfl, hb9⟩
      go_wp2_with fail
      refine (k8.out _).mono ?_
      rintro e w10 ⟨rfl, hb10⟩
      have hb610 : Below w6.heap.size w6 w10 := hb7.trans ((hb8.trans ((hb9.trans (hb10.mono hb9.size)).mono hb8.size)).mono hb7.size)
      have B10 := B6.trans (hb610.mono B6.size)
      have hz10 := hb610.size
      clear k5 k6 k7 k8 hb7 hb8 hb9 hb10
      have hT10 := Lib.hid (HL.out.from_ (hb0.trans (B10.mono (by omega))))
      go_wp2_with fail
      go_loopw [20, 21] (fun m i wr => ∃ k q : Nat, k ≤ ls.length ∧ i = .int .i64 k ∧ m = .int .i64 q ∧ q ≤ longS ∧ (∀ t ∈ ls.take k, t.length ≤ q) ∧ wr = w10) (fun _ i _ => ls.length - (intOf i).toNat)
      case atStart => exact ⟨0, 0, by omega, rfl, rfl, by decide, fun t h => by simp at h, rfl⟩
      case round =>
        obtain ⟨k, q, hk, rfl, rfl, hq, hall, rfl⟩ := hrel
        by_cases hlt : k < ls.length
        · obtain ⟨b, o, t, rfl, hb, ht, ct⟩ := hT10.out.at_ hlt
          have htl := HG.out t (List.mem_of_getElem? ht)
          have hlt' : ((k : Nat) : Int) < (ls.length : Nat) := by omega
          have hk2 : k < 40 := by omega
          go_wp2_with fail
          go_roundw
          case rel =>
            have hnext : ∀ u ∈ ls.take (k + 1), u ∈ ls.take k ∨ u = t := fun u hu => by
              rw [List.take_add_one, ht] at hu
              simpa using hu
            by_cases hqt : q < t.length
            · refine ⟨k + 1, t.length, by omega, rfl, by rw [if_pos hqt], htl, fun u hu => ?_, trivial⟩
              rcases hnext u hu with h | h
              · exact Nat.le_of_lt (Nat.lt_of_le_of_lt (hall u h) hqt)
              · rw [h]; exact Nat.le_refl _
            · refine ⟨k + 1, q, by omega, rfl, by rw [if_neg hqt], hq, fun u hu => ?_, trivial⟩
              rcases hnext u hu with h | h
              · exact hall u h
              · rw [h]; exact Nat.not_lt.1 hqt
          case measure => simp [intOf]; omega
        · obtain rfl : k = ls.length := by omega
          rw [List.take_length] at hall
          have hwr := B10.size
          have k9 := Lib.hid (HF.out.texts ls a cap wr (hT10.out.mono (by have := B10.size; omega)) (by omega) HG.out)
          have k10 : Hid (∀ a' cap' W, Lay W W.heap.size (ls.map M.textI) (.slice a' ls.length cap') → Calls Tryd.prog 24 #[iv true [] (.slice a' ls.length cap'), .int .i64 ls.length, .int .i64 0, .int .i64 q] W fun e w' => (∃ a2 cap2, e = .returned (.tuple #[.slice a2 ls.length cap2, .int .i64 0]) ∧ Ts w' w'.heap.size ls (.slice a2 ls.length cap2)) ∧ Below W.heap.size W w') := fun a' cap' W hl => by
            have hx := texts_sm ls HG.out
            have hcn : M.cntIs (ls.map M.textI) ≤ 4000 := by rw [texts_cnt]; omega
            have hlm : (ls.map M.textI).length = ls.length := List.length_map _
            have := HF.out.gTexts true [] (ls.map M.textI) a' cap' ls.length 0 q W ⟨by rw [hlm]; exact hl, ⟨by decide, hx⟩, hcn, texts_form ls (by omega)⟩
            rw [show M.getTexts ls.length 0 q (.mk true [] (ls.map M.textI)) = (ls, 0) from M.texts_back ls q (fun t h => by have := hall t h; omega), hlm] at this
            exact this
          go_wp2_with fail
          refine k9.out.mono ?_
          rintro e w11 ⟨⟨a11, c11, rfl, hL11⟩, hb11⟩
          go_wp2_with fail
          refine (k10.out _ _ _ hL11).mono ?_
          rintro e w12 ⟨⟨a12, c12, rfl, hT12⟩, hb12⟩
          have hb1012 := hb11.trans (hb12.mono hb11.size)
          have k11 := Lib.hid (rtexts_any ls ls a12 a c12 cap w12 hT12 ((hT10.out.from_ (hb1012.mono (by omega))).mono (by have := hb1012.size; omega)) (by omega) (by omega))
          rw [decide_eq_true rfl] at k11
          go_wp2_with fail
          refine k11.out.mono ?_
          rintro e w13 ⟨rfl, hb13⟩
          have hE := hb1012.trans (hb13.mono hb1012.size)
          have BE := Lib.hid (hb0.trans ((B10.trans (hE.mono (by omega))).mono (by omega)))
          have g0 := CL.out _ _ _ (B10.trans (hE.mono (by omega))) a0
          have g1 := CL.out _ _ _ (B10.trans (hE.mono (by omega))) a1
          have g2 := CL.out _ _ _ (B10.trans (hE.mono (by omega))) a2
          have g3 := CL.out _ _ _ (B10.trans (hE.mono (by omega))) a3
          have cl2 : ∀ o u, w6.cell? ⟨w5.heap.size, o, none⟩ = some u → w13.cell? ⟨w5.heap.size, o, none⟩ = some u := fun o u h => ((hb610.trans (hE.mono (by omega))).cell (p := ⟨w5.heap.size, o, none⟩) (by simp; omega)).trans h
          have e0 := cl2 _ _ d0
          have e1 := cl2 _ _ d1
          have e2 := cl2 _ _ d2
          have e3 := cl2 _ _ d3
          clear cl2 d0 d1 d2 d3 a0 a1 a2 a3 k9 k10 k11 hb11 hb12 hb1012 hb13 hE hb610 B10 hT12 hL11
          go_wp2_with fail
          go_ret
          exact ⟨rfl, BE.out⟩
end Go.Proofs.YtebkmlbpngpmdaaDoor
