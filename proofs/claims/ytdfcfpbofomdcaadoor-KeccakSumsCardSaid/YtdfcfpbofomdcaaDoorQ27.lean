/- The walk of KeccakSums. -/
import Derived.Test.YtdfcfpbofomdcaaDoorQ22
import Derived.Test.YtdfcfpbofomdcaaDoorQ23
namespace Go.Proofs.YtdfcfpbofomdcaaDoor
open Go Go.RowKit

/-- What both say of any number of bytes. -/
theorem pads_any (n : Int) : ∃ (p : ByteArray) (e : Int), (∀ W, Calls Tryd.prog 12 #[.int .i64 n] W fun r w' => r = .returned (.tuple #[.string p, .int .i64 e]) ∧ Below W.heap.size W w') ∧
    ∀ W, Calls Tryd.prog 13 #[.int .i64 n] W fun r w' => r = .returned (.tuple #[.string p, .int .i64 e]) ∧ Below W.heap.size W w' := by
  by_cases h : n < 0 ∨ 1099511627776 < n
  · exact ⟨⟨#[]⟩, 1, fun W => kpad_no n W h, fun W => rpad_no n W h⟩
  · obtain ⟨m, rfl⟩ := Int.eq_ofNat_of_zero_le (show 0 ≤ n by omega)
    exact ⟨_, 0, fun W => kpad m W (by omega), fun W => rpad m W (by omega)⟩

set_option maxRecDepth 100000 in
set_option maxHeartbeats 4000000 in
theorem ksums (b : ByteArray) (n : Int) (w : World) (hT : Tab w) :
    Calls Tryd.prog 4 #[.string b, .int .i64 n] w fun e w' => e = .returned (.bool true) ∧ Below w.heap.size w w' := by
  have HT := Lib.hid hT
  clear hT
  obtain ⟨p, er, hk, hr⟩ := pads_any n
  by_cases hl : 600 < b.size
  · have hl' : (600 : Int) < (b.size : Int) := by omega
    clear hk hr hl
    go_enter Tryd.func4, Tryd.ntmps4
    go_wp2_with fail
    refine (works_true _ HT.out).mono ?_
    rintro e w2 ⟨rfl, hb2⟩
    go_wp2_with fail
    go_ret
    exact ⟨rfl, hb2⟩
  · have hl' : (b.size : Int) ≤ 600 := by omega
    clear hl
    obtain ⟨X, hX⟩ : ∃ X : ByteArray, X = ⟨(M.sumL b.data.toList).toArray⟩ := ⟨_, rfl⟩
    have hrs := fun W => rsum b W (by omega)
    have hks := fun W (hT : Tab W) => callsIn_wide.1 (sum_in b W (by omega) hT)
    rw [← hX] at hrs hks
    clear hX
    go_enter Tryd.func4, Tryd.ntmps4
    go_wp2_with fail
    refine (works_true _ HT.out).mono ?_
    rintro e w2 ⟨rfl, hW⟩
    go_wp2_with fail
    refine (hrs _).mono ?_
    rintro e w3 ⟨rfl, hb3⟩
    replace hW := hW.trans (hb3.mono hW.size)
    clear hb3
    go_wp2_with fail
    refine (hk _).mono ?_
    rintro e w4 ⟨rfl, hb4⟩
    replace hW := hW.trans (hb4.mono hW.size)
    clear hb4
    go_wp2_with fail
    refine (hr _).mono ?_
    rintro e w5 ⟨rfl, hb5⟩
    replace hW := hW.trans (hb5.mono hW.size)
    clear hb5
    go_wp2_with fail
    refine (hks _ (HT.out.from hW)).mono ?_
    rintro e w6 ⟨rfl, hb6⟩
    replace hW := hW.trans (hb6.mono hW.size)
    clear hb6 hk hr hrs hks
    go_wp2_with fail
    go_ret
    exact ⟨by simp, hW⟩
end Go.Proofs.YtdfcfpbofomdcaaDoor
