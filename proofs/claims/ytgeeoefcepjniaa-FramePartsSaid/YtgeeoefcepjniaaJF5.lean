/- frame.Put. -/
import Derived.Test.YtgeeoefcepjniaaJF4
namespace Go.Proofs.Ytgeeoefcepjniaa
open Go Go.RowKit
attribute [local go_sem] Oper.semAt_some

theorem M.firF_drop {ls : List M.Fr} {k : Nat} {f : M.Fr} (h : ls[k]? = some f) : M.firF (ls.drop k) = if M.chkF f = 0 then M.firF (ls.drop (k + 1)) else M.chkF f := by
  obtain ⟨hk, e⟩ := List.getElem?_eq_some_iff.1 h
  rw [List.drop_eq_getElem_cons hk, e]
  rfl
theorem M.allF_take {ls : List M.Fr} {k : Nat} {f : M.Fr} (h : ls[k]? = some f) : M.allF (ls.take (k + 1)) = M.allF (ls.take k) ++ M.bytF f := by
  rw [List.take_add_one, h, M.allF_append]
  show _ ++ M.allF [f] = _
  rw [M.allF_cons]
  show _ ++ (M.bytF f ++ []) = _
  rw [List.append_nil]
theorem M.allF_len {ls : List M.Fr} (h : ∀ f ∈ ls, M.chkF f = 0) : (M.allF ls).length ≤ ls.length * 4119 := by
  induction ls with
  | nil => simp [M.allF]
  | cons f ls ih =>
    have h1 := h f (by simp)
    have h2 := ih fun g hg => h g (by simp [hg])
    have h3 := (M.chkF_ok h1).2.2.2
    rw [M.allF_cons, List.length_append, M.bytF_pos h1, List.length_cons]
    omega

set_option maxRecDepth 100000 in
set_option maxHeartbeats 8000000 in
theorem fput_any (ls : List M.Fr) (a : Option Addr) (cap : Nat) (w : World) (hL : Fs w w.heap.size ls (.slice a ls.length cap)) :
    Calls Try.prog 13 #[.slice a ls.length cap] w fun e w' => e = .returned (.tuple #[.string ⟨(M.putF ls).1.toArray⟩, .int .i64 ((M.putF ls).2 : Nat)]) ∧ Below w.heap.size w w' := by
  have hpf : M.putF ls = if ls.length = 0 then ([], 2) else if 32 < ls.length then ([], 5) else if M.firF ls = 0 then (0 :: M.allF ls, 0) else ([], M.firF ls) := rfl
  by_cases h0 : ls.length = 0
  · rw [hpf, if_pos h0]
    have h0' : (ls.length : Int) = 0 := by omega
    clear hpf
    go_enter Try.func13, Try.ntmps13
    go_wp2_with fail
    go_ret2
    exact ⟨rfl, Below.refl _ _⟩
  rw [if_neg h0] at hpf
  have h0' : ¬ (ls.length : Int) = 0 := by omega
  by_cases h1 : 32 < ls.length
  · rw [hpf, if_pos h1]
    have h1' : (32 : Int) < (ls.length : Nat) := by omega
    clear hpf
    go_enter Try.func13, Try.ntmps13
    go_wp2_with fail
    go_ret2
    exact ⟨rfl, Below.refl _ _⟩
  rw [if_neg h1] at hpf
  have h1' : ¬ (32 : Int) < (ls.length : Nat) := by omega
  have HPF := Lib.hid hpf
  clear hpf
  obtain ⟨w0, hw0⟩ : ∃ w0, w.alloc (.cells #[.pointer none, .slice none 0 0] 47) = w0 := ⟨_, rfl⟩
  have HW := Lib.hid hw0
  have hD0 : Bd w.heap.size w.heap.size [] w0 := by rw [← hw0]; exact Bd.new w
  have hb0 : Below w.heap.size w w0 := by rw [← hw0]; exact (Below.refl _ _).alloc (Nat.le_refl _) _
  have HC := Lib.hid (bbyte_any w.heap.size w.heap.size [] 0 w0 hD0 (by simp) hb0.size)
  have HB0 := Lib.hid hb0
  clear hw0 hD0 hb0
  go_enter Try.func13, Try.ntmps13
  go_wp2_with (rw [HW.out])
  refine HC.out.mono ?_
  rintro e w1 ⟨rfl, hD1, hb1⟩
  have hB1 := HB0.out.trans hb1
  go_wp2_with fail
  go_loopw [6, 7, 8, 20] (fun _ _ _ i wr => ∃ k : Nat, k ≤ ls.length ∧ i = .int .i64 k ∧ M.firF ls = M.firF (ls.drop k) ∧ (∀ f ∈ ls.take k, M.chkF f = 0) ∧ Bd w.heap.size w.heap.size (0 :: M.allF (ls.take k)) wr ∧ Below w.heap.size w wr) (fun _ _ _ i _ => ls.length - (intOf i).toNat)
  case atStart => exact ⟨0, by omega, rfl, by simp, by simp, by simpa [M.allF] using hD1, hB1⟩
  case round =>
    obtain ⟨k, hk, rfl, hfi, hok, hD, hW⟩ := hrel
    by_cases hlt : k < ls.length
    · obtain ⟨b, o, f, rfl, hb, hf, c0, c1, c2, c3⟩ := hL.at_ hlt
      have hk' : ((k : Nat) : Int) < (ls.length : Nat) := by omega
      have d0 := (hW.cell (p := ⟨b, o + k * 4, none⟩) hb).trans c0
      have d1 := (hW.cell (p := ⟨b, o + k * 4 + 1, none⟩) hb).trans c1
      have d2 := (hW.cell (p := ⟨b, o + k * 4 + 2, none⟩) hb).trans c2
      have d3 := (hW.cell (p := ⟨b, o + k * 4 + 3, none⟩) hb).trans c3
      have hz := hW.size
      obtain ⟨w2, hw2⟩ : ∃ w2, wr.alloc (.cells #[.string ⟨f.id.toArray⟩, .int .i64 f.num, .string ⟨f.data.toArray⟩, .bool f.last] 24) = w2 := ⟨_, rfl⟩
      have hb2 : Below wr.heap.size wr w2 := by rw [← hw2]; exact (Below.refl _ _).alloc (Nat.le_refl _) _
      have hD2 := hD.from_ hb2
      have hW2 : Below w.heap.size w w2 := hW.trans (hb2.mono hz)
      have hx : FrBox w2 wr.heap.size f := by rw [← hw2]; exact FrBox.new wr f _
      obtain ⟨x0, x1, x2, x3⟩ := hx
      have HO := Lib.hid (fun W => fone_any f W)
      have hlen : (0 :: M.allF (ls.take k)).length ≤ 131900 := by
        have := M.allF_len hok
        rw [List.length_take] at this
        rw [List.length_cons]
        omega
      have hnx := M.firF_drop hf
      rw [hnx] at hfi
      have HT := Lib.hid (M.allF_take hf)
      have HF := Lib.hid hf
      have HOK := Lib.hid hok
      have HW2 := Lib.hid hw2
      clear hw2 hf c0 c1 c2 c3 hok hnx hD hb2 hL
      by_cases hc : M.chkF f = 0
      · rw [if_pos hc] at hfi
        have hl := M.bytF_pos hc
        have hd := (M.chkF_ok hc).2.2.2
        rw [show M.oneF f = (M.bytF f, 0) by unfold M.oneF; rw [if_pos hc]] at HO
        have HFI := Lib.hid hfi
        have HCC := Lib.hid hc
        clear hfi hc
        go_wp2_with (rw [HW2.out])
        refine (HO.out _).mono ?_
        rintro e w3 ⟨rfl, hb3⟩
        have hD3 := hD2.from_ hb3
        have hz2 := hW2.size
        have hW3 := hW2.trans (hb3.mono hz2)
        have hz3 := hW3.size
        clear hD2 x0 x1 x2 x3 d0 d1 d2 d3
        go_wp2_with fail
        refine (btext_any _ _ _ (M.bytF f) w3 hD3 (by omega) hz3).mono ?_
        rintro e w4 ⟨rfl, hD4, hb4⟩
        go_wp2_with fail
        go_roundw
        case rel =>
          refine ⟨k + 1, by omega, by go_num, HFI.out, ?_, ?_, hW3.trans hb4⟩
          · intro g hg
            rw [List.take_add_one, HF.out] at hg
            rcases List.mem_append.1 hg with q | q
            · exact HOK.out g q
            · obtain rfl : g = f := by simpa using q
              exact HCC.out
          · rw [HT.out]
            exact hD4
        case measure => simp [intOf]; omega
      · rw [if_neg hc] at hfi
        rw [show M.oneF f = ([], M.chkF f) by unfold M.oneF; rw [if_neg hc]] at HO
        have hc' : ¬ ((M.chkF f : Nat) : Int) = 0 := by omega
        have hres := HPF.out
        rw [hfi, if_neg hc] at hres
        have HR := Lib.hid hres
        have HCC := Lib.hid hc
        clear hfi hc hres
        generalize M.chkF f = q at *
        go_wp2_with (rw [HW2.out])
        refine (HO.out _).mono ?_
        rintro e w3 ⟨rfl, hb3⟩
        have hW3 := hW2.trans (hb3.mono hW2.size)
        clear hD2 x0 x1 x2 x3 d0 d1 d2 d3
        go_wp2_with fail
        go_ret2
        refine ⟨?_, hW3⟩
        rw [HR.out]
        rfl
    · obtain rfl : k = ls.length := by omega
      have hk' : ¬ ((ls.length : Nat) : Int) < (ls.length : Nat) := by omega
      rw [List.take_of_length_le (Nat.le_refl _)] at hok hD
      rw [List.drop_of_length_le (Nat.le_refl _)] at hfi
      have hfi0 : M.firF ls = 0 := hfi
      have hres := HPF.out
      rw [if_pos hfi0] at hres
      have HR := Lib.hid hres
      have hz := hW.size
      clear hfi hfi0 hres
      go_wp2_with fail
      refine (bstr_any _ _ _ _ hD hz).mono ?_
      rintro e w4 ⟨rfl, hb4⟩
      go_wp2_with fail
      go_ret2
      refine ⟨?_, hW.trans hb4⟩
      rw [HR.out]
      rfl
end Go.Proofs.Ytgeeoefcepjniaa
