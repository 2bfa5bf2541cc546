/- The reference of layer 14: One, Put. -/
import Derived.Test.YtgeeoefcepjniaaJFD
namespace Go.Proofs.Ytgeeoefcepjniaa
open Go Go.RowKit
attribute [local go_sem] Oper.semAt_some

set_option maxRecDepth 100000 in
set_option maxHeartbeats 8000000 in
theorem rone14_any (f : M.Fr) (w : World) : Calls Try.prog 12 #[frv f] w fun e w' => e = .returned (.tuple #[.string ⟨(M.oneF f).1.toArray⟩, .int .i64 ((M.oneF f).2 : Nat)]) ∧ Below w.heap.size w w' := by
  obtain ⟨wB, hwB⟩ : ∃ wB, w.alloc (.cells #[.string ⟨f.id.toArray⟩, .int .i64 f.num, .string ⟨f.data.toArray⟩, .bool f.last] 24) = wB := ⟨_, rfl⟩
  have hb0 : Below w.heap.size w wB := by rw [← hwB]; exact (Below.refl _ _).alloc (Nat.le_refl _) _
  have hX0 : FrBox wB w.heap.size f := by rw [← hwB]; exact FrBox.new w f _
  have hlt : w.heap.size < wB.heap.size := by rw [← hwB]; simp
  have H := Lib.hid (fun W => rfcheck_any f W)
  have HW := Lib.hid hwB
  have HB := Lib.hid hb0
  have HX := Lib.hid (fun W (h : Below wB.heap.size wB W) => hX0.from_ h hlt)
  unfold M.oneF
  obtain ⟨c0, c1, c2, c3⟩ := hX0
  clear hb0 hlt hwB
  by_cases hk : M.chkF f = 0
  · rw [if_pos hk]
    obtain ⟨h1, h2, h3, h4⟩ := M.chkF_ok hk
    rw [hk] at H
    obtain ⟨N, hN⟩ : ∃ N : Nat, f.num = N := ⟨f.num.toNat, by omega⟩
    have hby : M.bytF f = M.bytR f.id N f.data (M.lstB f.last) := by
      unfold M.bytF M.bytR
      rw [hN]
      rfl
    have HBY := Lib.hid (fun W => rbytes14_any f.id f.data N f.last W (by omega) (by omega) h4)
    rw [← hby] at HBY
    generalize M.bytF f = r at *
    clear hby hk
    obtain ⟨i, n, d, l⟩ := f
    dsimp only at *
    obtain rfl : n = (N : Int) := hN
    clear h2 h3
    go_enter Try.func12, Try.ntmps12
    go_wp2_with (rw [HW.out])
    refine (H.out _).mono ?_
    rintro e w1 ⟨rfl, hb1⟩
    clear c0 c1 c2 c3
    obtain ⟨c0, c1, c2, c3⟩ := HX.out _ hb1
    go_wp2_with fail
    refine (HBY.out _).mono ?_
    rintro e w2 ⟨rfl, hb2⟩
    go_wp2_with fail
    go_ret2
    exact ⟨rfl, HB.out.trans ((hb1.trans (hb2.mono hb1.size)).mono HB.out.size)⟩
  · rw [if_neg hk]
    have hk' : ¬ ((M.chkF f : Nat) : Int) = 0 := by omega
    generalize M.chkF f = k at *
    go_enter Try.func12, Try.ntmps12
    go_wp2_with (rw [HW.out])
    refine (H.out _).mono ?_
    rintro e w1 ⟨rfl, hb1⟩
    go_wp2_with fail
    go_ret2
    exact ⟨rfl, HB.out.trans (hb1.mono HB.out.size)⟩

set_option maxRecDepth 100000 in
set_option maxHeartbeats 8000000 in
theorem rput14_any (ls : List M.Fr) (a : Option Addr) (cap : Nat) (w : World) (hL : Fs w w.heap.size ls (.slice a ls.length cap)) :
    Calls Try.prog 14 #[.slice a ls.length cap] w fun e w' => e = .returned (.tuple #[.string ⟨(M.putF ls).1.toArray⟩, .int .i64 ((M.putF ls).2 : Nat)]) ∧ Below w.heap.size w w' := by
  have hpf : M.putF ls = if ls.length = 0 then ([], 2) else if 32 < ls.length then ([], 5) else if M.firF ls = 0 then (0 :: M.allF ls, 0) else ([], M.firF ls) := rfl
  by_cases h0 : ls.length = 0
  · rw [hpf, if_pos h0]
    have h0' : (ls.length : Int) = 0 := by omega
    clear hpf
    go_enter Try.func14, Try.ntmps14
    go_wp2_with fail
    go_ret2
    exact ⟨rfl, Below.refl _ _⟩
  rw [if_neg h0] at hpf
  have h0' : ¬ (ls.length : Int) = 0 := by omega
  by_cases h1 : 32 < ls.length
  · rw [hpf, if_pos h1]
    have h1' : (32 : Int) < (ls.length : Nat) := by omega
    clear hpf
    go_enter Try.func14, Try.ntmps14
    go_wp2_with fail
    go_ret2
    exact ⟨rfl, Below.refl _ _⟩
  rw [if_neg h1] at hpf
  have h1' : ¬ (32 : Int) < (ls.length : Nat) := by omega
  have HPF := Lib.hid hpf
  clear hpf
  have hcv : (convert 45 9 (.slice (some ⟨w.heap.size, 0, none⟩) 1 1)).run Try.prog (w.alloc (.cells #[.int .u8 0] 5)) = .ok (.string ⟨#[0]⟩) (w.alloc (.cells #[.int .u8 0] 5)) :=
    run_convert_bytes_back _ 45 9 5 ⟨w.heap.size, 0, none⟩ 1 [0] Try.underlying45 Try.underlying5 Try.underlying9 (fun j hj => by
      obtain rfl : j = 0 := by simpa using hj
      simp [Addr.add, go_sem])
  go_enter Try.func14, Try.ntmps14
  go_wp2_with (rw [hcv])
  have hb0 : Below w.heap.size w (w.alloc (.cells #[.int .u8 0] 5)) := (Below.refl _ _).alloc (Nat.le_refl _) _
  clear hcv
  go_loopw [4, 5, 6, 7] (fun s i _ _ wr => ∃ k : Nat, k ≤ ls.length ∧ i = .int .i64 k ∧ M.firF ls = M.firF (ls.drop k) ∧ (∀ f ∈ ls.take k, M.chkF f = 0) ∧ s = .string ⟨(0 :: M.allF (ls.take k)).toArray⟩ ∧ Below w.heap.size w wr) (fun _ i _ _ _ => ls.length - (intOf i).toNat)
  case atStart => exact ⟨0, by omega, rfl, by simp, by simp, rfl, hb0⟩
  case round =>
    obtain ⟨k, hk, rfl, hfi, hok, rfl, hW⟩ := hrel
    by_cases hlt : k < ls.length
    · obtain ⟨b, o, f, rfl, hb, hf, c0, c1, c2, c3⟩ := hL.at_ hlt
      have hk' : ((k : Nat) : Int) < (ls.length : Nat) := by omega
      have d0 := (hW.cell (p := ⟨b, o + k * 4, none⟩) hb).trans c0
      have d1 := (hW.cell (p := ⟨b, o + k * 4 + 1, none⟩) hb).trans c1
      have d2 := (hW.cell (p := ⟨b, o + k * 4 + 2, none⟩) hb).trans c2
      have d3 := (hW.cell (p := ⟨b, o + k * 4 + 3, none⟩) hb).trans c3
      have HO := Lib.hid (fun W => rone14_any f W)
      have hlen : (0 :: M.allF (ls.take k)).length ≤ 131900 := by
        have := M.allF_len hok
        rw [List.length_take] at this
        rw [List.length_cons]
        omega
      have hnx := M.firF_drop hf
      rw [hnx] at hfi
      have HT := Lib.hid (M.allF_take hf)
      have HF := Lib.hid hf
      have HOK := Lib.hid hok
      clear hf c0 c1 c2 c3 hok hnx hL
      by_cases hc : M.chkF f = 0
      · rw [if_pos hc] at hfi
        have hl := M.bytF_pos hc
        have hd := (M.chkF_ok hc).2.2.2
        rw [show M.oneF f = (M.bytF f, 0) by unfold M.oneF; rw [if_pos hc]] at HO
        have HFI := Lib.hid hfi
        have HCC := Lib.hid hc
        obtain ⟨bf, hbf⟩ : ∃ bf, M.bytF f = bf := ⟨_, rfl⟩
        obtain ⟨s0, hs0⟩ : ∃ s0, (0 :: M.allF (ls.take k)) = s0 := ⟨_, rfl⟩
        have hcat : 0 :: M.allF (ls.take (k + 1)) = s0 ++ bf := by rw [HT.out, ← hs0, ← hbf]; rfl
        have HCAT := Lib.hid hcat
        rw [hbf] at HO hl
        rw [hs0] at hlen ⊢
        clear hfi hc hcat hbf hs0
        go_wp2_with fail
        refine (HO.out _).mono ?_
        rintro e w3 ⟨rfl, hb3⟩
        have hW3 := hW.trans (hb3.mono hW.size)
        clear d0 d1 d2 d3
        go_wp2_with fail
        go_roundw
        case rel =>
          refine ⟨k + 1, by omega, by go_num, HFI.out, ?_, ?_, hW3⟩
          · intro g hg
            rw [List.take_add_one, HF.out] at hg
            rcases List.mem_append.1 hg with q | q
            · exact HOK.out g q
            · obtain rfl : g = f := by simpa using q
              exact HCC.out
          · rw [HCAT.out, ← cat_eq]
        case measure => simp [intOf]; omega
      · rw [if_neg hc] at hfi
        rw [show M.oneF f = ([], M.chkF f) by unfold M.oneF; rw [if_neg hc]] at HO
        have hc' : ¬ ((M.chkF f : Nat) : Int) = 0 := by omega
        have hres := HPF.out
        rw [hfi, if_neg hc] at hres
        have HR := Lib.hid hres
        clear hfi hc hres
        generalize M.chkF f = q at *
        go_wp2_with fail
        refine (HO.out _).mono ?_
        rintro e w3 ⟨rfl, hb3⟩
        have hW3 := hW.trans (hb3.mono hW.size)
        clear d0 d1 d2 d3
        go_wp2_with fail
        go_ret2
        refine ⟨?_, hW3⟩
        rw [HR.out]
        rfl
    · obtain rfl : k = ls.length := by omega
      have hk' : ¬ ((ls.length : Nat) : Int) < (ls.length : Nat) := by omega
      rw [List.take_of_length_le (Nat.le_refl _)] at hok ⊢
      rw [List.drop_of_length_le (Nat.le_refl _)] at hfi
      have hfi0 : M.firF ls = 0 := hfi
      have hres := HPF.out
      rw [if_pos hfi0] at hres
      have HR := Lib.hid hres
      clear hfi hfi0 hres
      go_wp2_with fail
      go_ret2
      refine ⟨?_, hW⟩
      rw [HR.out]
      rfl
end Go.Proofs.Ytgeeoefcepjniaa
