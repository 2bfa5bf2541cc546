/- ReceiptBack, walked. -/
import Derived.Test.YtihiacbhdcahkaaGreatDoorTZ7g
import Derived.Test.YtihiacbhdcahkaaGreatDoorTZ2g
import Derived.Test.YtihiacbhdcahkaaGreatDoorB3g
namespace Go.Proofs.YtihiacbhdcahkaaGreatDoor
open Go Go.RowKit Go.Lib
attribute [local go_sem] Oper.semAt_some

theorem back_dec {x : M.Rc} (h : M.chkR x = 0) (hg : x.gas < 18446744073709551616) (hn : x.nonce < 18446744073709551616) (hf : M.fewX x.logs) (W : World) (hh : Hdl W) :
    Calls Tryz.prog 18 #[.string ⟨(M.bytesR x).toArray⟩] W fun e w' => (∃ v, e = .returned (.tuple #[rcv x v, .int .i64 0]) ∧ Ls w' w'.heap.size x.logs v) ∧ Below W.heap.size W w' := by
  have hd : ∀ g ∈ x.logs, g.data.length ≤ 300 := fun g hg' => by
    have h1 := (hf.2 g hg').1
    have h2 := ((M.chkR_logs h).2 g hg').2.2.2
    rcases Nat.lt_or_ge 300 g.data.length with q | q
    · exact absurd ⟨q, h2⟩ h1
    · exact q
  obtain ⟨e1, e2, e3⟩ := M.enc_back h hg hn hd
  have := pdecode_any (M.bytesR x) W hh e2 e3
  have e4 : M.decR (M.bytesR x) = (x, 0) := by
    unfold M.decR
    rw [e1, if_pos rfl]
  rw [e4] at this
  exact this
theorem form_kd {x : M.Rc} (h : M.chkR x = 0) (hf : M.formR x ≠ 0) : x.kind = 126 := by
  have h1 := (M.chkR_ok h).2.1
  unfold M.formR at hf
  unfold M.formedR at h1
  by_cases hq : x.full = true
  · simp [hq] at h1
    exact h1.1.1
  · rw [if_neg hq] at hf
    exact absurd rfl hf
set_option maxRecDepth 100000 in
set_option maxHeartbeats 8000000 in
theorem back11_law (k : Int) (st : Bool) (ga : Nat) (ls : List M.Lg) (a : Option Addr) (cap : Nat) (fu : Bool) (no ve : Nat) (w : World) (hh : Hdl w) (hL : Ls w w.heap.size ls (.slice a ls.length cap)) (hga : ga < 18446744073709551616) (hno : no < 18446744073709551616) :
    Calls Tryz.prog 5 #[.agg #[.int .i64 k, .bool st, .int .u64 (ga : Nat), .slice a ls.length cap, .bool fu, .int .u64 (no : Nat), .int .u64 (ve : Nat)]] w fun e w' => e = .returned (.bool true) ∧ Below w.heap.size w w' := by
  have mixed : Tryz.prog.follows .mixedOrders = true := by kernel_rfl
  obtain ⟨h, hhs⟩ : ∃ h, w.heap.size = h := ⟨_, rfl⟩
  obtain ⟨w0, hw0⟩ : ∃ w0, w.alloc (.cells #[.int .i64 k, .bool st, .int .u64 (ga : Nat), .slice a ls.length cap, .bool fu, .int .u64 (no : Nat), .int .u64 (ve : Nat)] 25) = w0 := ⟨_, rfl⟩
  have hb0 : Below w.heap.size w w0 := by rw [← hw0]; exact (Below.refl _ _).alloc (Nat.le_refl _) _
  have hx0 := B7.new w (.int .i64 k) (.bool st) (.int .u64 (ga : Nat)) (.slice a ls.length cap) (.bool fu) (.int .u64 (no : Nat)) (.int .u64 (ve : Nat)) 25
  rw [hw0, hhs] at hx0
  have hh0 := hh.kept hb0
  have HWK := Lib.hid (works11 w0 hh0)
  have HE := Lib.hid (fun W (hF : FewL ls) (hL : Ls W W.heap.size ls (.slice a ls.length cap)) => pencode_any ⟨k, st, ga, ls, fu, no, ve⟩ a cap W hF hga hno hL)
  have HC := Lib.hid (fun W (hF : FewL ls) (hL : Ls W W.heap.size ls (.slice a ls.length cap)) => pcheck_any ⟨k, st, ga, ls, fu, no, ve⟩ a cap W hF hL)
  have HW0 := Lib.hid hw0
  have HB0 := Lib.hid hb0
  have HL0 := Lib.hid (hL.kept hb0)
  have HH0 := Lib.hid hh0
  have HX0 := Lib.hid hx0
  clear hw0 hb0 hh hL hh0 hx0
  by_cases hX : M.chkR ⟨k, st, ga, ls, fu, no, ve⟩ = 0
  · have eX : M.encR ⟨k, st, ga, ls, fu, no, ve⟩ = (M.bytesR ⟨k, st, ga, ls, fu, no, ve⟩, 0) := by unfold M.encR; rw [if_pos hX]
    rw [eX] at HE
    have HD := Lib.hid (fun (hf : M.fewX ls) W (hh : Hdl W) => back_dec (x := ⟨k, st, ga, ls, fu, no, ve⟩) hX hga hno hf W hh)
    have hkd := form_kd hX
    have hFo : M.formR ⟨k, st, ga, ls, fu, no, ve⟩ = 0 ∨ M.formR ⟨k, st, ga, ls, fu, no, ve⟩ = 1 ∨ M.formR ⟨k, st, ga, ls, fu, no, ve⟩ = 2 := by
      unfold M.formR
      split
      · split
        · exact .inr (.inl rfl)
        · exact .inr (.inr rfl)
      · exact .inl rfl
    have HF := Lib.hid (fun a c W => form_any k (ga : Int) (no : Int) (ve : Int) st fu (.slice a ls.length c) W)
    have hfr : (if fu then if (ve : Int) = 0 then 1 else 2 else 0 : Int) = ((M.formR ⟨k, st, ga, ls, fu, no, ve⟩ : Nat) : Int) := by
      unfold M.formR
      cases fu
      · rfl
      · by_cases hv : ve = 0
        · simp [hv]
        · have : ¬ (ve : Int) = 0 := by omega
          simp [hv]
    rw [hfr] at HF
    generalize M.bytesR ⟨k, st, ga, ls, fu, no, ve⟩ = bx at *
    generalize M.formR ⟨k, st, ga, ls, fu, no, ve⟩ = f at *
    clear hfr eX hX HC
    dsimp only at *
    rcases hFo with rfl | rfl | rfl
    · clear hkd
      obtain ⟨b0, b1, b2, b3, b4, b5, b6⟩ := HX0.out
      go_enter Tryz.func5, Tryz.ntmps5
      clear b0 b1 b2 b3 b4 b5 b6
      go_wp2_with (first | rw [HW0.out] | rw [hhs])
      refine HWK.out.mono ?_
      rintro e w1 ⟨rfl, hb_⟩
      have HB1 := Lib.hid (HB0.out.trans (hb_.mono HB0.out.size))
      have HL1 := Lib.hid (HL0.out.kept hb_)
      have HH1 := Lib.hid (HH0.out.kept hb_)
      have HX1 := Lib.hid (HX0.out.from_ hb_)
      obtain ⟨c0, c1, c2, c3, c4, c5, c6⟩ := HX0.out.from_ hb_
      clear hb_ HWK HB0 HL0 HH0 HX0
      go_wp2_with fail
      refine (rfew_any k st ga ls fu no ve a cap w1 HL1.out).mono ?_
      rintro e w2 ⟨⟨q, rfl, hq⟩, hb_⟩
      clear c0 c1 c2 c3 c4 c5 c6
      have HB2 := Lib.hid (HB1.out.trans (hb_.mono HB1.out.size))
      have HL2 := Lib.hid (HL1.out.kept hb_)
      have HH2 := Lib.hid (HH1.out.kept hb_)
      have HX2 := Lib.hid (HX1.out.from_ hb_)
      clear hb_ HB1 HL1 HH1 HX1
      cases q with
      | false =>
        go_wp2_with fail
        go_ret
        exact ⟨rfl, HB2.out⟩
      | true =>
        have HFX2 := Lib.hid (hq rfl)
        clear hq
        obtain ⟨c0, c1, c2, c3, c4, c5, c6⟩ := HX2.out
        go_wp2_with fail
        refine (HE.out _ (M.fewX_few HFX2.out) HL2.out).mono ?_
        rintro e w3 ⟨rfl, hb_⟩
        clear c0 c1 c2 c3 c4 c5 c6
        have HB3 := Lib.hid (HB2.out.trans (hb_.mono HB2.out.size))
        have HL3 := Lib.hid (HL2.out.kept hb_)
        have HH3 := Lib.hid (HH2.out.kept hb_)
        have HX3 := Lib.hid (HX2.out.from_ hb_)
        clear hb_ HB2 HL2 HH2 HX2 HE
        go_wp2_with fail
        refine (HD.out HFX2.out _ HH3.out).mono ?_
        rintro e w4 ⟨⟨v, rfl, L4⟩, hb_⟩
        obtain ⟨a2, c2, rfl, _, hm2⟩ := L4.slice
        obtain ⟨g7, hg7⟩ : ∃ g7, w4.heap.size = g7 := ⟨_, rfl⟩
        obtain ⟨w5, hw5⟩ : ∃ w5, w4.alloc (.cells #[.int .i64 k, .bool st, .int .u64 (ga : Nat), .slice a2 ls.length c2, .bool fu, .int .u64 (no : Nat), .int .u64 (ve : Nat)] 25) = w5 := ⟨_, rfl⟩
        have hb5 : Below w4.heap.size w4 w5 := by rw [← hw5]; exact (Below.refl _ _).alloc (Nat.le_refl _) _
        have hx7 := B7.new w4 (.int .i64 k) (.bool st) (.int .u64 (ga : Nat)) (.slice a2 ls.length c2) (.bool fu) (.int .u64 (no : Nat)) (.int .u64 (ve : Nat)) 25
        rw [hw5, hg7] at hx7
        have HB5 := Lib.hid ((HB3.out.trans (hb_.mono HB3.out.size)).trans (hb5.mono (Nat.le_trans HB3.out.size hb_.size)))
        have hl5 := (HL3.out.kept hb_).kept hb5
        have hy5 := L4.kept hb5
        have hfw := M.fewX_few HFX2.out
        have HX1 := Lib.hid (fun W (h : Below w5.heap.size w5 W) => ((HX3.out.from_ hb_).from_ hb5).from_ h)
        have HX7 := Lib.hid (fun W (h : Below w5.heap.size w5 W) => hx7.from_ h)
        have hsm : M.sameR ⟨k, st, ga, ls, fu, no, ve⟩ ⟨k, st, ga, ls, fu, no, ve⟩ = true := M.sameR_iff.2 rfl
        have HSM := Lib.hid (fun W (h : Below w5.heap.size w5 W) => psame_any ⟨k, st, ga, ls, fu, no, ve⟩ ⟨k, st, ga, ls, fu, no, ve⟩ a cap a2 c2 W (hl5.kept h) (hy5.kept h) hfw)
        rw [hsm] at HSM
        have HFX := Lib.hid (fun W => HF.out a cap W)
        have HFY := Lib.hid (fun W => HF.out a2 c2 W)
        have HW5 := Lib.hid hw5
        clear hb_ hb5 L4 hw5 hx7 hl5 hy5 hfw hsm HB3 HL3 HH3 HX3 HD HF HFX2
        go_wp2_with (first | rw [HW5.out] | rw [hg7])
        refine region_quiet (C := fun W => Below w5.heap.size w5 W) mixed (by kernel_rfl) (Below.drew (Below.refl _ _)) ?_
        refine quiet_val (.bool true) (by rfl) (fun W hC => by go_simp) ?_
        simp only [Act.put, List.setIfInBounds_toArray, List.set_cons_zero, List.set_cons_succ]
        refine quiet_val (.bool true) (by rfl) (fun W hC => by go_simp) ?_
        simp only [Act.put, List.setIfInBounds_toArray, List.set_cons_zero, List.set_cons_succ]
        refine quiet_val (.int .i64 0) (by rfl) (fun W hC => by go_simp) ?_
        simp only [Act.put, List.setIfInBounds_toArray, List.set_cons_zero, List.set_cons_succ]
        refine quiet_val (.bool true) (by rfl) (fun W hC => by go_simp) ?_
        simp only [Act.put, List.setIfInBounds_toArray, List.set_cons_zero, List.set_cons_succ]
        refine quiet_val (.bool true) (by rfl) (fun W hC => by go_simp) ?_
        simp only [Act.put, List.setIfInBounds_toArray, List.set_cons_zero, List.set_cons_succ]
        refine quiet_val (.bool true) (by rfl) (fun W hC => by go_simp) ?_
        simp only [Act.put, List.setIfInBounds_toArray, List.set_cons_zero, List.set_cons_succ]
        refine quiet_val (.agg #[.int .i64 k, .bool st, .int .u64 (ga : Nat), .slice a ls.length cap, .bool fu, .int .u64 (no : Nat), .int .u64 (ve : Nat)]) (by rfl) (fun W hC => by obtain ⟨c0, c1, c2_, c3, c4, c5, c6⟩ := HX1.out W hC; go_simp) ?_
        simp only [Act.put, List.setIfInBounds_toArray, List.set_cons_zero, List.set_cons_succ]
        refine quiet_val (.agg #[.int .i64 k, .bool st, .int .u64 (ga : Nat), .slice a2 ls.length c2, .bool fu, .int .u64 (no : Nat), .int .u64 (ve : Nat)]) (by rfl) (fun W hC => by obtain ⟨c0, c1, c2_, c3, c4, c5, c6⟩ := HX7.out W hC; go_simp) ?_
        simp only [Act.put, List.setIfInBounds_toArray, List.set_cons_zero, List.set_cons_succ]
        refine quiet_call (.bool true) 17 #[.agg #[.int .i64 k, .bool st, .int .u64 (ga : Nat), .slice a ls.length cap, .bool fu, .int .u64 (no : Nat), .int .u64 (ve : Nat)], .agg #[.int .i64 k, .bool st, .int .u64 (ga : Nat), .slice a2 ls.length c2, .bool fu, .int .u64 (no : Nat), .int .u64 (ve : Nat)]] (by rfl) (fun W _ => by go_simp) (fun W hC => (HSM.out W hC).mono fun _ _ h => ⟨h.1, hC.trans (h.2.mono hC.size)⟩) ?_
        simp only [Act.put, List.setIfInBounds_toArray, List.set_cons_zero, List.set_cons_succ]
        refine quiet_val (.bool true) (by rfl) (fun W hC => by go_simp) ?_
        simp only [Act.put, List.setIfInBounds_toArray, List.set_cons_zero, List.set_cons_succ]
        refine quiet_val (.bool true) (by rfl) (fun W hC => by go_simp) ?_
        simp only [Act.put, List.setIfInBounds_toArray, List.set_cons_zero, List.set_cons_succ]
        refine quiet_val (.agg #[.int .i64 k, .bool st, .int .u64 (ga : Nat), .slice a ls.length cap, .bool fu, .int .u64 (no : Nat), .int .u64 (ve : Nat)]) (by rfl) (fun W hC => by obtain ⟨c0, c1, c2_, c3, c4, c5, c6⟩ := HX1.out W hC; go_simp) ?_
        simp only [Act.put, List.setIfInBounds_toArray, List.set_cons_zero, List.set_cons_succ]
        refine quiet_call (.int .i64 0) 16 #[.agg #[.int .i64 k, .bool st, .int .u64 (ga : Nat), .slice a ls.length cap, .bool fu, .int .u64 (no : Nat), .int .u64 (ve : Nat)]] (by rfl) (fun W _ => by go_simp) (fun W hC => (HFX.out W).mono fun _ _ h => ⟨h.1, hC.trans (h.2.mono hC.size)⟩) ?_
        simp only [Act.put, List.setIfInBounds_toArray, List.set_cons_zero, List.set_cons_succ]
        refine quiet_val (.agg #[.int .i64 k, .bool st, .int .u64 (ga : Nat), .slice a2 ls.length c2, .bool fu, .int .u64 (no : Nat), .int .u64 (ve : Nat)]) (by rfl) (fun W hC => by obtain ⟨c0, c1, c2_, c3, c4, c5, c6⟩ := HX7.out W hC; go_simp) ?_
        simp only [Act.put, List.setIfInBounds_toArray, List.set_cons_zero, List.set_cons_succ]
        refine quiet_call (.int .i64 0) 16 #[.agg #[.int .i64 k, .bool st, .int .u64 (ga : Nat), .slice a2 ls.length c2, .bool fu, .int .u64 (no : Nat), .int .u64 (ve : Nat)]] (by rfl) (fun W _ => by go_simp) (fun W hC => (HFY.out W).mono fun _ _ h => ⟨h.1, hC.trans (h.2.mono hC.size)⟩) ?_
        simp only [Act.put, List.setIfInBounds_toArray, List.set_cons_zero, List.set_cons_succ]
        refine quiet_val (.bool true) (by rfl) (fun W hC => by go_simp) ?_
        simp only [Act.put, List.setIfInBounds_toArray, List.set_cons_zero, List.set_cons_succ]
        refine quiet_val (.bool true) (by rfl) (fun W hC => by go_simp) ?_
        simp only [Act.put, List.setIfInBounds_toArray, List.set_cons_zero, List.set_cons_succ]
        refine quiet_val (.bool true) (by rfl) (fun W hC => by go_simp) ?_
        simp only [Act.put, List.setIfInBounds_toArray, List.set_cons_zero, List.set_cons_succ]
        refine quiet_val (.agg #[.int .i64 k, .bool st, .int .u64 (ga : Nat), .slice a ls.length cap, .bool fu, .int .u64 (no : Nat), .int .u64 (ve : Nat)]) (by rfl) (fun W hC => by obtain ⟨c0, c1, c2_, c3, c4, c5, c6⟩ := HX1.out W hC; go_simp) ?_
        simp only [Act.put, List.setIfInBounds_toArray, List.set_cons_zero, List.set_cons_succ]
        refine quiet_call (.int .i64 0) 16 #[.agg #[.int .i64 k, .bool st, .int .u64 (ga : Nat), .slice a ls.length cap, .bool fu, .int .u64 (no : Nat), .int .u64 (ve : Nat)]] (by rfl) (fun W _ => by go_simp) (fun W hC => (HFX.out W).mono fun _ _ h => ⟨h.1, hC.trans (h.2.mono hC.size)⟩) ?_
        simp only [Act.put, List.setIfInBounds_toArray, List.set_cons_zero, List.set_cons_succ]
        refine quiet_val (.bool true) (by rfl) (fun W hC => by go_simp) ?_
        simp only [Act.put, List.setIfInBounds_toArray, List.set_cons_zero, List.set_cons_succ]
        refine quiet_val (.bool true) (by rfl) (fun W hC => by go_simp) ?_
        simp only [Act.put, List.setIfInBounds_toArray, List.set_cons_zero, List.set_cons_succ]
        refine quiet_val (.bool true) (by rfl) (fun W hC => by go_simp) ?_
        simp only [Act.put, List.setIfInBounds_toArray, List.set_cons_zero, List.set_cons_succ]
        refine quiet_val (.agg #[.int .i64 k, .bool st, .int .u64 (ga : Nat), .slice a ls.length cap, .bool fu, .int .u64 (no : Nat), .int .u64 (ve : Nat)]) (by rfl) (fun W hC => by obtain ⟨c0, c1, c2_, c3, c4, c5, c6⟩ := HX1.out W hC; go_simp) ?_
        simp only [Act.put, List.setIfInBounds_toArray, List.set_cons_zero, List.set_cons_succ]
        refine quiet_call (.int .i64 0) 16 #[.agg #[.int .i64 k, .bool st, .int .u64 (ga : Nat), .slice a ls.length cap, .bool fu, .int .u64 (no : Nat), .int .u64 (ve : Nat)]] (by rfl) (fun W _ => by go_simp) (fun W hC => (HFX.out W).mono fun _ _ h => ⟨h.1, hC.trans (h.2.mono hC.size)⟩) ?_
        simp only [Act.put, List.setIfInBounds_toArray, List.set_cons_zero, List.set_cons_succ]
        refine quiet_val (.bool true) (by rfl) (fun W hC => by go_simp) ?_
        simp only [Act.put, List.setIfInBounds_toArray, List.set_cons_zero, List.set_cons_succ]
        refine quiet_val (.bool true) (by rfl) (fun W hC => by go_simp) ?_
        simp only [Act.put, List.setIfInBounds_toArray, List.set_cons_zero, List.set_cons_succ]
        refine quiet_skip (by rfl) ?_
        simp only [Act.put, List.setIfInBounds_toArray, List.set_cons_zero, List.set_cons_succ]
        refine quiet_skip (by rfl) ?_
        simp only [Act.put, List.setIfInBounds_toArray, List.set_cons_zero, List.set_cons_succ]
        refine quiet_skip (by rfl) ?_
        simp only [Act.put, List.setIfInBounds_toArray, List.set_cons_zero, List.set_cons_succ]
        refine quiet_val (.bool true) (by rfl) (fun W hC => by go_simp) ?_
        simp only [Act.put, List.setIfInBounds_toArray, List.set_cons_zero, List.set_cons_succ]
        refine quiet_val (.bool true) (by rfl) (fun W hC => by go_simp) ?_
        simp only [Act.put, List.setIfInBounds_toArray, List.set_cons_zero, List.set_cons_succ]
        refine quiet_val (.bool true) (by rfl) (fun W hC => by go_simp) ?_
        simp only [Act.put, List.setIfInBounds_toArray, List.set_cons_zero, List.set_cons_succ]
        refine wpQuiet_nil ?_
        intro w6 hb6
        go_wp2_with fail
        go_ret
        exact ⟨rfl, HB5.out.trans (hb6.mono HB5.out.size)⟩
    · obtain rfl := hkd (by decide)
      obtain ⟨b0, b1, b2, b3, b4, b5, b6⟩ := HX0.out
      go_enter Tryz.func5, Tryz.ntmps5
      clear b0 b1 b2 b3 b4 b5 b6
      go_wp2_with (first | rw [HW0.out] | rw [hhs])
      refine HWK.out.mono ?_
      rintro e w1 ⟨rfl, hb_⟩
      have HB1 := Lib.hid (HB0.out.trans (hb_.mono HB0.out.size))
      have HL1 := Lib.hid (HL0.out.kept hb_)
      have HH1 := Lib.hid (HH0.out.kept hb_)
      have HX1 := Lib.hid (HX0.out.from_ hb_)
      obtain ⟨c0, c1, c2, c3, c4, c5, c6⟩ := HX0.out.from_ hb_
      clear hb_ HWK HB0 HL0 HH0 HX0
      go_wp2_with fail
      refine (rfew_any 126 st ga ls fu no ve a cap w1 HL1.out).mono ?_
      rintro e w2 ⟨⟨q, rfl, hq⟩, hb_⟩
      clear c0 c1 c2 c3 c4 c5 c6
      have HB2 := Lib.hid (HB1.out.trans (hb_.mono HB1.out.size))
      have HL2 := Lib.hid (HL1.out.kept hb_)
      have HH2 := Lib.hid (HH1.out.kept hb_)
      have HX2 := Lib.hid (HX1.out.from_ hb_)
      clear hb_ HB1 HL1 HH1 HX1
      cases q with
      | false =>
        go_wp2_with fail
        go_ret
        exact ⟨rfl, HB2.out⟩
      | true =>
        have HFX2 := Lib.hid (hq rfl)
        clear hq
        obtain ⟨c0, c1, c2, c3, c4, c5, c6⟩ := HX2.out
        go_wp2_with fail
        refine (HE.out _ (M.fewX_few HFX2.out) HL2.out).mono ?_
        rintro e w3 ⟨rfl, hb_⟩
        clear c0 c1 c2 c3 c4 c5 c6
        have HB3 := Lib.hid (HB2.out.trans (hb_.mono HB2.out.size))
        have HL3 := Lib.hid (HL2.out.kept hb_)
        have HH3 := Lib.hid (HH2.out.kept hb_)
        have HX3 := Lib.hid (HX2.out.from_ hb_)
        clear hb_ HB2 HL2 HH2 HX2 HE
        go_wp2_with fail
        refine (HD.out HFX2.out _ HH3.out).mono ?_
        rintro e w4 ⟨⟨v, rfl, L4⟩, hb_⟩
        obtain ⟨a2, c2, rfl, _, hm2⟩ := L4.slice
        obtain ⟨g7, hg7⟩ : ∃ g7, w4.heap.size = g7 := ⟨_, rfl⟩
        obtain ⟨w5, hw5⟩ : ∃ w5, w4.alloc (.cells #[.int .i64 126, .bool st, .int .u64 (ga : Nat), .slice a2 ls.length c2, .bool fu, .int .u64 (no : Nat), .int .u64 (ve : Nat)] 25) = w5 := ⟨_, rfl⟩
        have hb5 : Below w4.heap.size w4 w5 := by rw [← hw5]; exact (Below.refl _ _).alloc (Nat.le_refl _) _
        have hx7 := B7.new w4 (.int .i64 126) (.bool st) (.int .u64 (ga : Nat)) (.slice a2 ls.length c2) (.bool fu) (.int .u64 (no : Nat)) (.int .u64 (ve : Nat)) 25
        rw [hw5, hg7] at hx7
        have HB5 := Lib.hid ((HB3.out.trans (hb_.mono HB3.out.size)).trans (hb5.mono (Nat.le_trans HB3.out.size hb_.size)))
        have hl5 := (HL3.out.kept hb_).kept hb5
        have hy5 := L4.kept hb5
        have hfw := M.fewX_few HFX2.out
        have HX1 := Lib.hid (fun W (h : Below w5.heap.size w5 W) => ((HX3.out.from_ hb_).from_ hb5).from_ h)
        have HX7 := Lib.hid (fun W (h : Below w5.heap.size w5 W) => hx7.from_ h)
        have hsm : M.sameR ⟨126, st, ga, ls, fu, no, ve⟩ ⟨126, st, ga, ls, fu, no, ve⟩ = true := M.sameR_iff.2 rfl
        have HSM := Lib.hid (fun W (h : Below w5.heap.size w5 W) => psame_any ⟨126, st, ga, ls, fu, no, ve⟩ ⟨126, st, ga, ls, fu, no, ve⟩ a cap a2 c2 W (hl5.kept h) (hy5.kept h) hfw)
        rw [hsm] at HSM
        have HFX := Lib.hid (fun W => HF.out a cap W)
        have HFY := Lib.hid (fun W => HF.out a2 c2 W)
        have HW5 := Lib.hid hw5
        clear hb_ hb5 L4 hw5 hx7 hl5 hy5 hfw hsm HB3 HL3 HH3 HX3 HD HF HFX2
        go_wp2_with (first | rw [HW5.out] | rw [hg7])
        refine region_quiet (C := fun W => Below w5.heap.size w5 W) mixed (by kernel_rfl) (Below.drew (Below.refl _ _)) ?_
        refine quiet_val (.bool true) (by rfl) (fun W hC => by go_simp) ?_
        simp only [Act.put, List.setIfInBounds_toArray, List.set_cons_zero, List.set_cons_succ]
        refine quiet_val (.bool true) (by rfl) (fun W hC => by go_simp) ?_
        simp only [Act.put, List.setIfInBounds_toArray, List.set_cons_zero, List.set_cons_succ]
        refine quiet_val (.int .i64 0) (by rfl) (fun W hC => by go_simp) ?_
        simp only [Act.put, List.setIfInBounds_toArray, List.set_cons_zero, List.set_cons_succ]
        refine quiet_val (.bool true) (by rfl) (fun W hC => by go_simp) ?_
        simp only [Act.put, List.setIfInBounds_toArray, List.set_cons_zero, List.set_cons_succ]
        refine quiet_val (.bool true) (by rfl) (fun W hC => by go_simp) ?_
        simp only [Act.put, List.setIfInBounds_toArray, List.set_cons_zero, List.set_cons_succ]
        refine quiet_val (.bool true) (by rfl) (fun W hC => by go_simp) ?_
        simp only [Act.put, List.setIfInBounds_toArray, List.set_cons_zero, List.set_cons_succ]
        refine quiet_val (.agg #[.int .i64 126, .bool st, .int .u64 (ga : Nat), .slice a ls.length cap, .bool fu, .int .u64 (no : Nat), .int .u64 (ve : Nat)]) (by rfl) (fun W hC => by obtain ⟨c0, c1, c2_, c3, c4, c5, c6⟩ := HX1.out W hC; go_simp) ?_
        simp only [Act.put, List.setIfInBounds_toArray, List.set_cons_zero, List.set_cons_succ]
        refine quiet_val (.agg #[.int .i64 126, .bool st, .int .u64 (ga : Nat), .slice a2 ls.length c2, .bool fu, .int .u64 (no : Nat), .int .u64 (ve : Nat)]) (by rfl) (fun W hC => by obtain ⟨c0, c1, c2_, c3, c4, c5, c6⟩ := HX7.out W hC; go_simp) ?_
        simp only [Act.put, List.setIfInBounds_toArray, List.set_cons_zero, List.set_cons_succ]
        refine quiet_call (.bool true) 17 #[.agg #[.int .i64 126, .bool st, .int .u64 (ga : Nat), .slice a ls.length cap, .bool fu, .int .u64 (no : Nat), .int .u64 (ve : Nat)], .agg #[.int .i64 126, .bool st, .int .u64 (ga : Nat), .slice a2 ls.length c2, .bool fu, .int .u64 (no : Nat), .int .u64 (ve : Nat)]] (by rfl) (fun W _ => by go_simp) (fun W hC => (HSM.out W hC).mono fun _ _ h => ⟨h.1, hC.trans (h.2.mono hC.size)⟩) ?_
        simp only [Act.put, List.setIfInBounds_toArray, List.set_cons_zero, List.set_cons_succ]
        refine quiet_val (.bool true) (by rfl) (fun W hC => by go_simp) ?_
        simp only [Act.put, List.setIfInBounds_toArray, List.set_cons_zero, List.set_cons_succ]
        refine quiet_val (.bool true) (by rfl) (fun W hC => by go_simp) ?_
        simp only [Act.put, List.setIfInBounds_toArray, List.set_cons_zero, List.set_cons_succ]
        refine quiet_val (.agg #[.int .i64 126, .bool st, .int .u64 (ga : Nat), .slice a ls.length cap, .bool fu, .int .u64 (no : Nat), .int .u64 (ve : Nat)]) (by rfl) (fun W hC => by obtain ⟨c0, c1, c2_, c3, c4, c5, c6⟩ := HX1.out W hC; go_simp) ?_
        simp only [Act.put, List.setIfInBounds_toArray, List.set_cons_zero, List.set_cons_succ]
        refine quiet_call (.int .i64 1) 16 #[.agg #[.int .i64 126, .bool st, .int .u64 (ga : Nat), .slice a ls.length cap, .bool fu, .int .u64 (no : Nat), .int .u64 (ve : Nat)]] (by rfl) (fun W _ => by go_simp) (fun W hC => (HFX.out W).mono fun _ _ h => ⟨h.1, hC.trans (h.2.mono hC.size)⟩) ?_
        simp only [Act.put, List.setIfInBounds_toArray, List.set_cons_zero, List.set_cons_succ]
        refine quiet_val (.agg #[.int .i64 126, .bool st, .int .u64 (ga : Nat), .slice a2 ls.length c2, .bool fu, .int .u64 (no : Nat), .int .u64 (ve : Nat)]) (by rfl) (fun W hC => by obtain ⟨c0, c1, c2_, c3, c4, c5, c6⟩ := HX7.out W hC; go_simp) ?_
        simp only [Act.put, List.setIfInBounds_toArray, List.set_cons_zero, List.set_cons_succ]
        refine quiet_call (.int .i64 1) 16 #[.agg #[.int .i64 126, .bool st, .int .u64 (ga : Nat), .slice a2 ls.length c2, .bool fu, .int .u64 (no : Nat), .int .u64 (ve : Nat)]] (by rfl) (fun W _ => by go_simp) (fun W hC => (HFY.out W).mono fun _ _ h => ⟨h.1, hC.trans (h.2.mono hC.size)⟩) ?_
        simp only [Act.put, List.setIfInBounds_toArray, List.set_cons_zero, List.set_cons_succ]
        refine quiet_val (.bool true) (by rfl) (fun W hC => by go_simp) ?_
        simp only [Act.put, List.setIfInBounds_toArray, List.set_cons_zero, List.set_cons_succ]
        refine quiet_val (.bool true) (by rfl) (fun W hC => by go_simp) ?_
        simp only [Act.put, List.setIfInBounds_toArray, List.set_cons_zero, List.set_cons_succ]
        refine quiet_val (.bool true) (by rfl) (fun W hC => by go_simp) ?_
        simp only [Act.put, List.setIfInBounds_toArray, List.set_cons_zero, List.set_cons_succ]
        refine quiet_val (.agg #[.int .i64 126, .bool st, .int .u64 (ga : Nat), .slice a ls.length cap, .bool fu, .int .u64 (no : Nat), .int .u64 (ve : Nat)]) (by rfl) (fun W hC => by obtain ⟨c0, c1, c2_, c3, c4, c5, c6⟩ := HX1.out W hC; go_simp) ?_
        simp only [Act.put, List.setIfInBounds_toArray, List.set_cons_zero, List.set_cons_succ]
        refine quiet_call (.int .i64 1) 16 #[.agg #[.int .i64 126, .bool st, .int .u64 (ga : Nat), .slice a ls.length cap, .bool fu, .int .u64 (no : Nat), .int .u64 (ve : Nat)]] (by rfl) (fun W _ => by go_simp) (fun W hC => (HFX.out W).mono fun _ _ h => ⟨h.1, hC.trans (h.2.mono hC.size)⟩) ?_
        simp only [Act.put, List.setIfInBounds_toArray, List.set_cons_zero, List.set_cons_succ]
        refine quiet_val (.bool true) (by rfl) (fun W hC => by go_simp) ?_
        simp only [Act.put, List.setIfInBounds_toArray, List.set_cons_zero, List.set_cons_succ]
        refine quiet_val (.bool true) (by rfl) (fun W hC => by go_simp) ?_
        simp only [Act.put, List.setIfInBounds_toArray, List.set_cons_zero, List.set_cons_succ]
        refine quiet_val (.bool true) (by rfl) (fun W hC => by go_simp) ?_
        simp only [Act.put, List.setIfInBounds_toArray, List.set_cons_zero, List.set_cons_succ]
        refine quiet_val (.agg #[.int .i64 126, .bool st, .int .u64 (ga : Nat), .slice a ls.length cap, .bool fu, .int .u64 (no : Nat), .int .u64 (ve : Nat)]) (by rfl) (fun W hC => by obtain ⟨c0, c1, c2_, c3, c4, c5, c6⟩ := HX1.out W hC; go_simp) ?_
        simp only [Act.put, List.setIfInBounds_toArray, List.set_cons_zero, List.set_cons_succ]
        refine quiet_call (.int .i64 1) 16 #[.agg #[.int .i64 126, .bool st, .int .u64 (ga : Nat), .slice a ls.length cap, .bool fu, .int .u64 (no : Nat), .int .u64 (ve : Nat)]] (by rfl) (fun W _ => by go_simp) (fun W hC => (HFX.out W).mono fun _ _ h => ⟨h.1, hC.trans (h.2.mono hC.size)⟩) ?_
        simp only [Act.put, List.setIfInBounds_toArray, List.set_cons_zero, List.set_cons_succ]
        refine quiet_val (.bool false) (by rfl) (fun W hC => by go_simp) ?_
        simp only [Act.put, List.setIfInBounds_toArray, List.set_cons_zero, List.set_cons_succ]
        refine quiet_val (.bool false) (by rfl) (fun W hC => by go_simp) ?_
        simp only [Act.put, List.setIfInBounds_toArray, List.set_cons_zero, List.set_cons_succ]
        refine quiet_val (.pointer (some ⟨h, 0, none⟩)) (by rfl) (fun W hC => by go_simp) ?_
        simp only [Act.put, List.setIfInBounds_toArray, List.set_cons_zero, List.set_cons_succ]
        refine quiet_val (.int .i64 126) (by rfl) (fun W hC => by obtain ⟨c0, c1, c2_, c3, c4, c5, c6⟩ := HX1.out W hC; go_simp) ?_
        simp only [Act.put, List.setIfInBounds_toArray, List.set_cons_zero, List.set_cons_succ]
        refine quiet_val (.bool true) (by rfl) (fun W hC => by go_simp) ?_
        simp only [Act.put, List.setIfInBounds_toArray, List.set_cons_zero, List.set_cons_succ]
        refine quiet_val (.bool true) (by rfl) (fun W hC => by go_simp) ?_
        simp only [Act.put, List.setIfInBounds_toArray, List.set_cons_zero, List.set_cons_succ]
        refine quiet_val (.bool true) (by rfl) (fun W hC => by go_simp) ?_
        simp only [Act.put, List.setIfInBounds_toArray, List.set_cons_zero, List.set_cons_succ]
        refine quiet_val (.bool true) (by rfl) (fun W hC => by go_simp) ?_
        simp only [Act.put, List.setIfInBounds_toArray, List.set_cons_zero, List.set_cons_succ]
        refine wpQuiet_nil ?_
        intro w6 hb6
        go_wp2_with fail
        go_ret
        exact ⟨rfl, HB5.out.trans (hb6.mono HB5.out.size)⟩
    · obtain rfl := hkd (by decide)
      obtain ⟨b0, b1, b2, b3, b4, b5, b6⟩ := HX0.out
      go_enter Tryz.func5, Tryz.ntmps5
      clear b0 b1 b2 b3 b4 b5 b6
      go_wp2_with (first | rw [HW0.out] | rw [hhs])
      refine HWK.out.mono ?_
      rintro e w1 ⟨rfl, hb_⟩
      have HB1 := Lib.hid (HB0.out.trans (hb_.mono HB0.out.size))
      have HL1 := Lib.hid (HL0.out.kept hb_)
      have HH1 := Lib.hid (HH0.out.kept hb_)
      have HX1 := Lib.hid (HX0.out.from_ hb_)
      obtain ⟨c0, c1, c2, c3, c4, c5, c6⟩ := HX0.out.from_ hb_
      clear hb_ HWK HB0 HL0 HH0 HX0
      go_wp2_with fail
      refine (rfew_any 126 st ga ls fu no ve a cap w1 HL1.out).mono ?_
      rintro e w2 ⟨⟨q, rfl, hq⟩, hb_⟩
      clear c0 c1 c2 c3 c4 c5 c6
      have HB2 := Lib.hid (HB1.out.trans (hb_.mono HB1.out.size))
      have HL2 := Lib.hid (HL1.out.kept hb_)
      have HH2 := Lib.hid (HH1.out.kept hb_)
      have HX2 := Lib.hid (HX1.out.from_ hb_)
      clear hb_ HB1 HL1 HH1 HX1
      cases q with
      | false =>
        go_wp2_with fail
        go_ret
        exact ⟨rfl, HB2.out⟩
      | true =>
        have HFX2 := Lib.hid (hq rfl)
        clear hq
        obtain ⟨c0, c1, c2, c3, c4, c5, c6⟩ := HX2.out
        go_wp2_with fail
        refine (HE.out _ (M.fewX_few HFX2.out) HL2.out).mono ?_
        rintro e w3 ⟨rfl, hb_⟩
        clear c0 c1 c2 c3 c4 c5 c6
        have HB3 := Lib.hid (HB2.out.trans (hb_.mono HB2.out.size))
        have HL3 := Lib.hid (HL2.out.kept hb_)
        have HH3 := Lib.hid (HH2.out.kept hb_)
        have HX3 := Lib.hid (HX2.out.from_ hb_)
        clear hb_ HB2 HL2 HH2 HX2 HE
        go_wp2_with fail
        refine (HD.out HFX2.out _ HH3.out).mono ?_
        rintro e w4 ⟨⟨v, rfl, L4⟩, hb_⟩
        obtain ⟨a2, c2, rfl, _, hm2⟩ := L4.slice
        obtain ⟨g7, hg7⟩ : ∃ g7, w4.heap.size = g7 := ⟨_, rfl⟩
        obtain ⟨w5, hw5⟩ : ∃ w5, w4.alloc (.cells #[.int .i64 126, .bool st, .int .u64 (ga : Nat), .slice a2 ls.length c2, .bool fu, .int .u64 (no : Nat), .int .u64 (ve : Nat)] 25) = w5 := ⟨_, rfl⟩
        have hb5 : Below w4.heap.size w4 w5 := by rw [← hw5]; exact (Below.refl _ _).alloc (Nat.le_refl _) _
        have hx7 := B7.new w4 (.int .i64 126) (.bool st) (.int .u64 (ga : Nat)) (.slice a2 ls.length c2) (.bool fu) (.int .u64 (no : Nat)) (.int .u64 (ve : Nat)) 25
        rw [hw5, hg7] at hx7
        have HB5 := Lib.hid ((HB3.out.trans (hb_.mono HB3.out.size)).trans (hb5.mono (Nat.le_trans HB3.out.size hb_.size)))
        have hl5 := (HL3.out.kept hb_).kept hb5
        have hy5 := L4.kept hb5
        have hfw := M.fewX_few HFX2.out
        have HX1 := Lib.hid (fun W (h : Below w5.heap.size w5 W) => ((HX3.out.from_ hb_).from_ hb5).from_ h)
        have HX7 := Lib.hid (fun W (h : Below w5.heap.size w5 W) => hx7.from_ h)
        have hsm : M.sameR ⟨126, st, ga, ls, fu, no, ve⟩ ⟨126, st, ga, ls, fu, no, ve⟩ = true := M.sameR_iff.2 rfl
        have HSM := Lib.hid (fun W (h : Below w5.heap.size w5 W) => psame_any ⟨126, st, ga, ls, fu, no, ve⟩ ⟨126, st, ga, ls, fu, no, ve⟩ a cap a2 c2 W (hl5.kept h) (hy5.kept h) hfw)
        rw [hsm] at HSM
        have HFX := Lib.hid (fun W => HF.out a cap W)
        have HFY := Lib.hid (fun W => HF.out a2 c2 W)
        have HW5 := Lib.hid hw5
        clear hb_ hb5 L4 hw5 hx7 hl5 hy5 hfw hsm HB3 HL3 HH3 HX3 HD HF HFX2
        go_wp2_with (first | rw [HW5.out] | rw [hg7])
        refine region_quiet (C := fun W => Below w5.heap.size w5 W) mixed (by kernel_rfl) (Below.drew (Below.refl _ _)) ?_
        refine quiet_val (.bool true) (by rfl) (fun W hC => by go_simp) ?_
        simp only [Act.put, List.setIfInBounds_toArray, List.set_cons_zero, List.set_cons_succ]
        refine quiet_val (.bool true) (by rfl) (fun W hC => by go_simp) ?_
        simp only [Act.put, List.setIfInBounds_toArray, List.set_cons_zero, List.set_cons_succ]
        refine quiet_val (.int .i64 0) (by rfl) (fun W hC => by go_simp) ?_
        simp only [Act.put, List.setIfInBounds_toArray, List.set_cons_zero, List.set_cons_succ]
        refine quiet_val (.bool true) (by rfl) (fun W hC => by go_simp) ?_
        simp only [Act.put, List.setIfInBounds_toArray, List.set_cons_zero, List.set_cons_succ]
        refine quiet_val (.bool true) (by rfl) (fun W hC => by go_simp) ?_
        simp only [Act.put, List.setIfInBounds_toArray, List.set_cons_zero, List.set_cons_succ]
        refine quiet_val (.bool true) (by rfl) (fun W hC => by go_simp) ?_
        simp only [Act.put, List.setIfInBounds_toArray, List.set_cons_zero, List.set_cons_succ]
        refine quiet_val (.agg #[.int .i64 126, .bool st, .int .u64 (ga : Nat), .slice a ls.length cap, .bool fu, .int .u64 (no : Nat), .int .u64 (ve : Nat)]) (by rfl) (fun W hC => by obtain ⟨c0, c1, c2_, c3, c4, c5, c6⟩ := HX1.out W hC; go_simp) ?_
        simp only [Act.put, List.setIfInBounds_toArray, List.set_cons_zero, List.set_cons_succ]
        refine quiet_val (.agg #[.int .i64 126, .bool st, .int .u64 (ga : Nat), .slice a2 ls.length c2, .bool fu, .int .u64 (no : Nat), .int .u64 (ve : Nat)]) (by rfl) (fun W hC => by obtain ⟨c0, c1, c2_, c3, c4, c5, c6⟩ := HX7.out W hC; go_simp) ?_
        simp only [Act.put, List.setIfInBounds_toArray, List.set_cons_zero, List.set_cons_succ]
        refine quiet_call (.bool true) 17 #[.agg #[.int .i64 126, .bool st, .int .u64 (ga : Nat), .slice a ls.length cap, .bool fu, .int .u64 (no : Nat), .int .u64 (ve : Nat)], .agg #[.int .i64 126, .bool st, .int .u64 (ga : Nat), .slice a2 ls.length c2, .bool fu, .int .u64 (no : Nat), .int .u64 (ve : Nat)]] (by rfl) (fun W _ => by go_simp) (fun W hC => (HSM.out W hC).mono fun _ _ h => ⟨h.1, hC.trans (h.2.mono hC.size)⟩) ?_
        simp only [Act.put, List.setIfInBounds_toArray, List.set_cons_zero, List.set_cons_succ]
        refine quiet_val (.bool true) (by rfl) (fun W hC => by go_simp) ?_
        simp only [Act.put, List.setIfInBounds_toArray, List.set_cons_zero, List.set_cons_succ]
        refine quiet_val (.bool true) (by rfl) (fun W hC => by go_simp) ?_
        simp only [Act.put, List.setIfInBounds_toArray, List.set_cons_zero, List.set_cons_succ]
        refine quiet_val (.agg #[.int .i64 126, .bool st, .int .u64 (ga : Nat), .slice a ls.length cap, .bool fu, .int .u64 (no : Nat), .int .u64 (ve : Nat)]) (by rfl) (fun W hC => by obtain ⟨c0, c1, c2_, c3, c4, c5, c6⟩ := HX1.out W hC; go_simp) ?_
        simp only [Act.put, List.setIfInBounds_toArray, List.set_cons_zero, List.set_cons_succ]
        refine quiet_call (.int .i64 2) 16 #[.agg #[.int .i64 126, .bool st, .int .u64 (ga : Nat), .slice a ls.length cap, .bool fu, .int .u64 (no : Nat), .int .u64 (ve : Nat)]] (by rfl) (fun W _ => by go_simp) (fun W hC => (HFX.out W).mono fun _ _ h => ⟨h.1, hC.trans (h.2.mono hC.size)⟩) ?_
        simp only [Act.put, List.setIfInBounds_toArray, List.set_cons_zero, List.set_cons_succ]
        refine quiet_val (.agg #[.int .i64 126, .bool st, .int .u64 (ga : Nat), .slice a2 ls.length c2, .bool fu, .int .u64 (no : Nat), .int .u64 (ve : Nat)]) (by rfl) (fun W hC => by obtain ⟨c0, c1, c2_, c3, c4, c5, c6⟩ := HX7.out W hC; go_simp) ?_
        simp only [Act.put, List.setIfInBounds_toArray, List.set_cons_zero, List.set_cons_succ]
        refine quiet_call (.int .i64 2) 16 #[.agg #[.int .i64 126, .bool st, .int .u64 (ga : Nat), .slice a2 ls.length c2, .bool fu, .int .u64 (no : Nat), .int .u64 (ve : Nat)]] (by rfl) (fun W _ => by go_simp) (fun W hC => (HFY.out W).mono fun _ _ h => ⟨h.1, hC.trans (h.2.mono hC.size)⟩) ?_
        simp only [Act.put, List.setIfInBounds_toArray, List.set_cons_zero, List.set_cons_succ]
        refine quiet_val (.bool true) (by rfl) (fun W hC => by go_simp) ?_
        simp only [Act.put, List.setIfInBounds_toArray, List.set_cons_zero, List.set_cons_succ]
        refine quiet_val (.bool true) (by rfl) (fun W hC => by go_simp) ?_
        simp only [Act.put, List.setIfInBounds_toArray, List.set_cons_zero, List.set_cons_succ]
        refine quiet_val (.bool true) (by rfl) (fun W hC => by go_simp) ?_
        simp only [Act.put, List.setIfInBounds_toArray, List.set_cons_zero, List.set_cons_succ]
        refine quiet_val (.agg #[.int .i64 126, .bool st, .int .u64 (ga : Nat), .slice a ls.length cap, .bool fu, .int .u64 (no : Nat), .int .u64 (ve : Nat)]) (by rfl) (fun W hC => by obtain ⟨c0, c1, c2_, c3, c4, c5, c6⟩ := HX1.out W hC; go_simp) ?_
        simp only [Act.put, List.setIfInBounds_toArray, List.set_cons_zero, List.set_cons_succ]
        refine quiet_call (.int .i64 2) 16 #[.agg #[.int .i64 126, .bool st, .int .u64 (ga : Nat), .slice a ls.length cap, .bool fu, .int .u64 (no : Nat), .int .u64 (ve : Nat)]] (by rfl) (fun W _ => by go_simp) (fun W hC => (HFX.out W).mono fun _ _ h => ⟨h.1, hC.trans (h.2.mono hC.size)⟩) ?_
        simp only [Act.put, List.setIfInBounds_toArray, List.set_cons_zero, List.set_cons_succ]
        refine quiet_val (.bool true) (by rfl) (fun W hC => by go_simp) ?_
        simp only [Act.put, List.setIfInBounds_toArray, List.set_cons_zero, List.set_cons_succ]
        refine quiet_val (.bool true) (by rfl) (fun W hC => by go_simp) ?_
        simp only [Act.put, List.setIfInBounds_toArray, List.set_cons_zero, List.set_cons_succ]
        refine quiet_val (.bool true) (by rfl) (fun W hC => by go_simp) ?_
        simp only [Act.put, List.setIfInBounds_toArray, List.set_cons_zero, List.set_cons_succ]
        refine quiet_val (.agg #[.int .i64 126, .bool st, .int .u64 (ga : Nat), .slice a ls.length cap, .bool fu, .int .u64 (no : Nat), .int .u64 (ve : Nat)]) (by rfl) (fun W hC => by obtain ⟨c0, c1, c2_, c3, c4, c5, c6⟩ := HX1.out W hC; go_simp) ?_
        simp only [Act.put, List.setIfInBounds_toArray, List.set_cons_zero, List.set_cons_succ]
        refine quiet_call (.int .i64 2) 16 #[.agg #[.int .i64 126, .bool st, .int .u64 (ga : Nat), .slice a ls.length cap, .bool fu, .int .u64 (no : Nat), .int .u64 (ve : Nat)]] (by rfl) (fun W _ => by go_simp) (fun W hC => (HFX.out W).mono fun _ _ h => ⟨h.1, hC.trans (h.2.mono hC.size)⟩) ?_
        simp only [Act.put, List.setIfInBounds_toArray, List.set_cons_zero, List.set_cons_succ]
        refine quiet_val (.bool false) (by rfl) (fun W hC => by go_simp) ?_
        simp only [Act.put, List.setIfInBounds_toArray, List.set_cons_zero, List.set_cons_succ]
        refine quiet_val (.bool false) (by rfl) (fun W hC => by go_simp) ?_
        simp only [Act.put, List.setIfInBounds_toArray, List.set_cons_zero, List.set_cons_succ]
        refine quiet_val (.pointer (some ⟨h, 0, none⟩)) (by rfl) (fun W hC => by go_simp) ?_
        simp only [Act.put, List.setIfInBounds_toArray, List.set_cons_zero, List.set_cons_succ]
        refine quiet_val (.int .i64 126) (by rfl) (fun W hC => by obtain ⟨c0, c1, c2_, c3, c4, c5, c6⟩ := HX1.out W hC; go_simp) ?_
        simp only [Act.put, List.setIfInBounds_toArray, List.set_cons_zero, List.set_cons_succ]
        refine quiet_val (.bool true) (by rfl) (fun W hC => by go_simp) ?_
        simp only [Act.put, List.setIfInBounds_toArray, List.set_cons_zero, List.set_cons_succ]
        refine quiet_val (.bool true) (by rfl) (fun W hC => by go_simp) ?_
        simp only [Act.put, List.setIfInBounds_toArray, List.set_cons_zero, List.set_cons_succ]
        refine quiet_val (.bool true) (by rfl) (fun W hC => by go_simp) ?_
        simp only [Act.put, List.setIfInBounds_toArray, List.set_cons_zero, List.set_cons_succ]
        refine quiet_val (.bool true) (by rfl) (fun W hC => by go_simp) ?_
        simp only [Act.put, List.setIfInBounds_toArray, List.set_cons_zero, List.set_cons_succ]
        refine wpQuiet_nil ?_
        intro w6 hb6
        go_wp2_with fail
        go_ret
        exact ⟨rfl, HB5.out.trans (hb6.mono HB5.out.size)⟩
  · have eX : M.encR ⟨k, st, ga, ls, fu, no, ve⟩ = ([], M.chkR ⟨k, st, ga, ls, fu, no, ve⟩) := by unfold M.encR; rw [if_neg hX]
    rw [eX] at HE
    generalize M.chkR ⟨k, st, ga, ls, fu, no, ve⟩ = cx at *
    have hx1 : ((cx : Int) == 0) = false := by simp [hX]
    have hx2 : ¬ (cx : Int) = 0 := by omega
    clear eX
    dsimp only at *
    obtain ⟨b0, b1, b2, b3, b4, b5, b6⟩ := HX0.out
    go_enter Tryz.func5, Tryz.ntmps5
    clear b0 b1 b2 b3 b4 b5 b6
    go_wp2_with (first | rw [HW0.out] | rw [hhs])
    refine HWK.out.mono ?_
    rintro e w1 ⟨rfl, hb_⟩
    have HB1 := Lib.hid (HB0.out.trans (hb_.mono HB0.out.size))
    have HL1 := Lib.hid (HL0.out.kept hb_)
    have HH1 := Lib.hid (HH0.out.kept hb_)
    have HX1 := Lib.hid (HX0.out.from_ hb_)
    obtain ⟨c0, c1, c2, c3, c4, c5, c6⟩ := HX0.out.from_ hb_
    clear hb_ HWK HB0 HL0 HH0 HX0
    go_wp2_with fail
    refine (rfew_any k st ga ls fu no ve a cap w1 HL1.out).mono ?_
    rintro e w2 ⟨⟨q, rfl, hq⟩, hb_⟩
    clear c0 c1 c2 c3 c4 c5 c6
    have HB2 := Lib.hid (HB1.out.trans (hb_.mono HB1.out.size))
    have HL2 := Lib.hid (HL1.out.kept hb_)
    have HH2 := Lib.hid (HH1.out.kept hb_)
    have HX2 := Lib.hid (HX1.out.from_ hb_)
    clear hb_ HB1 HL1 HH1 HX1
    cases q with
    | false =>
      go_wp2_with fail
      go_ret
      exact ⟨rfl, HB2.out⟩
    | true =>
      have HFX2 := Lib.hid (hq rfl)
      clear hq
      obtain ⟨c0, c1, c2, c3, c4, c5, c6⟩ := HX2.out
      go_wp2_with fail
      refine (HE.out _ (M.fewX_few HFX2.out) HL2.out).mono ?_
      rintro e w3 ⟨rfl, hb_⟩
      clear c0 c1 c2 c3 c4 c5 c6
      have HB3 := Lib.hid (HB2.out.trans (hb_.mono HB2.out.size))
      have HL3 := Lib.hid (HL2.out.kept hb_)
      have HH3 := Lib.hid (HH2.out.kept hb_)
      have HX3 := Lib.hid (HX2.out.from_ hb_)
      clear hb_ HB2 HL2 HH2 HX2 HE
      obtain ⟨c0, c1, c2, c3, c4, c5, c6⟩ := HX3.out
      go_wp2_with fail
      refine (HC.out _ (M.fewX_few HFX2.out) HL3.out).mono ?_
      rintro e w4 ⟨rfl, hb_⟩
      go_wp2_with fail
      go_ret
      exact ⟨rfl, HB3.out.trans (hb_.mono HB3.out.size)⟩
end Go.Proofs.YtihiacbhdcahkaaGreatDoor
