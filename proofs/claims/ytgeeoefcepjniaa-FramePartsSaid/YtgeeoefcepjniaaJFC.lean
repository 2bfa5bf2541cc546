/- The reference of layer 14: Few, Same. -/
import Derived.Test.YtgeeoefcepjniaaJF1
import Derived.Test.YtgeeoefcepjniaaF0
namespace Go.Proofs.Ytgeeoefcepjniaa
open Go Go.RowKit

/-- How many there may be, that are looked at. -/
structure FewF (e : Ending) (ls : List M.Fr) : Prop where
  ans : ∃ q : Bool, e = .returned (.bool q) ∧ (q = true → ls.length ≤ 40)

set_option maxRecDepth 100000 in
set_option maxHeartbeats 8000000 in
theorem rfew14_any (ls : List M.Fr) (a : Option Addr) (cap : Nat) (w : World) (hL : Fs w w.heap.size ls (.slice a ls.length cap)) :
    Calls Try.prog 9 #[.slice a ls.length cap] w fun e w' => FewF e ls ∧ w' = w := by
  go_enter Try.func9, Try.ntmps9
  go_wp2_with fail
  go_loopw [3] (fun i wr => ∃ k : Nat, k ≤ ls.length ∧ k ≤ 41 ∧ i = .int .i64 k ∧ wr = w) (fun i _ => ls.length - (intOf i).toNat)
  case atStart => exact ⟨0, by omega, by omega, rfl, rfl⟩
  case round =>
    obtain ⟨k, hk, hk41, rfl, rfl⟩ := hrel
    by_cases hlt : k < ls.length
    · by_cases h40 : k ≤ 40
      · obtain ⟨b, o, f, rfl, hb, hf, c0, c1, c2, c3⟩ := hL.at_ hlt
        have e2 : o + k * 4 + 2 = o + k * 4 + 2 := rfl
        have hk' : ((k : Nat) : Int) < (ls.length : Nat) := by omega
        have h40' : ((k : Nat) : Int) ≤ 40 := by omega
        have hfin : ∀ q : Bool, FewF (.returned (.bool false)) ls := fun _ => ⟨false, rfl, fun h => by cases h⟩
        by_cases h300 : 300 < f.data.length
        · have h300' : (300 : Int) < (f.data.length : Nat) := by omega
          by_cases h4096 : f.data.length ≤ 4096
          · have h4096' : (f.data.length : Int) ≤ 4096 := by omega
            go_wp2_with fail
            go_ret
            exact ⟨hfin true, rfl⟩
          · have h4096' : ¬ (f.data.length : Int) ≤ 4096 := by omega
            by_cases h100 : 100 < f.id.length
            · have h100' : (100 : Int) < (f.id.length : Nat) := by omega
              go_wp2_with fail
              go_ret
              exact ⟨hfin true, rfl⟩
            · have h100' : ¬ (100 : Int) < (f.id.length : Nat) := by omega
              go_wp2_with fail
              go_roundw
              case rel => exact ⟨k + 1, by omega, by omega, by go_num, trivial⟩
              case measure => simp [intOf]; omega
        · have h300' : ¬ (300 : Int) < (f.data.length : Nat) := by omega
          by_cases h100 : 100 < f.id.length
          · have h100' : (100 : Int) < (f.id.length : Nat) := by omega
            go_wp2_with fail
            go_ret
            exact ⟨hfin true, rfl⟩
          · have h100' : ¬ (100 : Int) < (f.id.length : Nat) := by omega
            go_wp2_with fail
            go_roundw
            case rel => exact ⟨k + 1, by omega, by omega, by go_num, trivial⟩
            case measure => simp [intOf]; omega
      · have hk' : ((k : Nat) : Int) < (ls.length : Nat) := by omega
        have h40' : ¬ ((k : Nat) : Int) ≤ 40 := by omega
        have hl' : ¬ (ls.length : Int) ≤ 40 := by omega
        go_wp2_with fail
        go_ret
        exact ⟨⟨_, rfl, fun h => by simp at h <;> omega⟩, rfl⟩
    · have hk' : ¬ ((k : Nat) : Int) < (ls.length : Nat) := by omega
      go_wp2_with fail
      go_ret
      exact ⟨⟨_, rfl, fun h => by simp at h <;> omega⟩, rfl⟩

set_option maxRecDepth 100000 in
set_option maxHeartbeats 8000000 in
theorem rsame14_any (ls : List M.Fr) (a b : Option Addr) (ca cb : Nat) (w : World) (hL : Fs w w.heap.size ls (.slice a ls.length ca)) (hM : Fs w w.heap.size ls (.slice b ls.length cb)) (hh : ls.length ≤ 100000) :
    Calls Try.prog 17 #[.slice a ls.length ca, .slice b ls.length cb] w fun e w' => e = .returned (.bool true) ∧ Below w.heap.size w w' := by
  go_enter Try.func17, Try.ntmps17
  go_wp2_with fail
  go_loopw [5] (fun i wr => ∃ k : Nat, k ≤ ls.length ∧ i = .int .i64 k ∧ Below w.heap.size w wr) (fun i _ => ls.length - (intOf i).toNat)
  case atStart => exact ⟨0, by omega, rfl, Below.refl _ _⟩
  case round =>
    obtain ⟨k, hk, rfl, hW⟩ := hrel
    by_cases hlt : k < ls.length
    · obtain ⟨b1, o1, f, rfl, hb1, hf, c0, c1, c2, c3⟩ := hL.at_ hlt
      obtain ⟨b2, o2, g, rfl, hb2, hg, d0, d1, d2, d3⟩ := hM.at_ hlt
      obtain rfl : f = g := by rw [hf] at hg; exact Option.some.inj hg
      have hk' : ((k : Nat) : Int) < (ls.length : Nat) := by omega
      have c0 := (hW.cell (p := ⟨b1, o1 + k * 4, none⟩) hb1).trans c0
      have c1 := (hW.cell (p := ⟨b1, o1 + k * 4 + 1, none⟩) hb1).trans c1
      have c2 := (hW.cell (p := ⟨b1, o1 + k * 4 + 2, none⟩) hb1).trans c2
      have c3 := (hW.cell (p := ⟨b1, o1 + k * 4 + 3, none⟩) hb1).trans c3
      have d0 := (hW.cell (p := ⟨b2, o2 + k * 4, none⟩) hb2).trans d0
      have d1 := (hW.cell (p := ⟨b2, o2 + k * 4 + 1, none⟩) hb2).trans d1
      have d2 := (hW.cell (p := ⟨b2, o2 + k * 4 + 2, none⟩) hb2).trans d2
      have d3 := (hW.cell (p := ⟨b2, o2 + k * 4 + 3, none⟩) hb2).trans d3
      go_wp2_with fail
      go_quiet (fail)
      go_wp2_with fail
      go_roundw
      case rel => exact ⟨k + 1, by omega, by go_num, ⟨hW.os, hW.tape, hW.output, hW.size, hW.block⟩⟩
      case measure => simp [intOf]; omega
    · have hk' : ¬ ((k : Nat) : Int) < (ls.length : Nat) := by omega
      go_wp2_with fail
      go_ret
      exact ⟨rfl, hW⟩
end Go.Proofs.Ytgeeoefcepjniaa
