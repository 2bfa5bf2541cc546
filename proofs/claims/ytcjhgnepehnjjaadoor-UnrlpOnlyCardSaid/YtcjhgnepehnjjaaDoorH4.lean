/- UnrlpOnly, under what the calls of package unrlp must do. -/
import Derived.Test.YtcjhgnepehnjjaaDoorH1
import Derived.Test.YtcjhgnepehnjjaaDoorM16
import Derived.Test.YtcjhgnepehnjjaaDoorD11
import Derived.Test.YtcjhgnepehnjjaaDoorD12
namespace Go.Proofs.YtcjhgnepehnjjaaDoor
open Go Go.RowKit

set_option maxRecDepth 100000 in
set_option maxHeartbeats 4000000 in
theorem only_law (HD : Hid DecOk) (HH : Hid HeadOk) (HN : Hid NextOk) (s : List UInt8) (w : World) :
    Calls Tryd.prog 4 #[.string ⟨s.toArray⟩] w fun e w' => e = .returned (.bool true) ∧ Below w.heap.size w w' := by
  go_enter Tryd.func4, Tryd.ntmps4
  go_wp2_with fail
  refine (uworks HD HH HN _).mono ?_
  rintro e w1 ⟨rfl, hb1⟩
  by_cases hs : 1500 < s.length
  · go_wp2_with fail
    go_ret
    exact ⟨rfl, hb1⟩
  have k1 := Lib.hid (HD.out s w1 (by omega))
  by_cases he : (M.decodeL s).2 = 0
  · obtain ⟨e1, e2⟩ := M.dec_only he
    rw [he] at k1
    go_wp2_with fail
    refine k1.out.mono ?_
    rintro e w2 ⟨⟨l, d, xs, a, cap, rfl, hx, hL⟩, hb2⟩
    rw [hx] at e1 e2
    obtain ⟨f1, f2⟩ := M.checkI_ok.1 e2
    have hc := M.cnt_le _ _ f1
    rw [e1, M.cntI] at hc
    have hb02 := hb1.trans (hb2.mono hb1.size)
    have hA := Box.new w2 l d (.slice a xs.length cap) 24
    have hq : Below w2.heap.size w2 (w2.alloc (.cells #[.bool l, .string ⟨d.toArray⟩, .slice a xs.length cap] 24)) := by (repeat (first | exact Below.refl _ _ | refine Below.drew ?_ | refine Below.alloc ?_ (by first | omega | (simp; omega) | simp) _ | refine Below.setCell ?_ (by first | omega | (simp; omega) | simp) _))
    have hs02 := hb02.size
    have hz : (w2.alloc (.cells #[.bool l, .string ⟨d.toArray⟩, .slice a xs.length cap] 24)).heap.size = w2.heap.size + 1 := by simp
    have hb02a := hb02.trans (hq.mono hb02.size)
    have k2 := encode_any l d xs _ _ ((hL.from_ hq).mono (by omega)) (by omega) (by rw [e1]; omega)
    rw [M.encode_ok e2, e1] at k2
    have K2 := Lib.hid k2
    have K3 : Hid (∀ W, Below (w2.heap.size + 1) (w2.alloc (.cells #[.bool l, .string ⟨d.toArray⟩, .slice a xs.length cap] 24)) W → Calls Tryd.prog 12 #[.agg #[.bool l, .string ⟨d.toArray⟩, .slice a xs.length cap]] W fun e w' => e = .returned (.int .i64 (s.length : Nat)) ∧ Below W.heap.size W w') := fun W hb => by
      have hw := hb.size
      have := size_any l d xs _ W ((hL.from_ (hq.trans (hb.mono (by omega)))).mono (by omega)) (by omega) (by rw [e1]; omega)
      rwa [e1] at this
    clear hx k1 he k2 hL e1 e2 f1 f2 hc
    go_wp2_with fail
    refine K2.out.mono ?_
    rintro e w3 ⟨rfl, hb3⟩
    rw [hz] at hb3
    have hA3 := hA.from_ hb3 (by omega)
    have c0 := hA3.c0
    have c1 := hA3.c1
    have c2 := hA3.c2
    go_wp2_with fail
    refine (K3.out _ hb3).mono ?_
    rintro e w4 ⟨rfl, hb4⟩
    go_wp2_with fail
    go_ret
    exact ⟨rfl, (hb02a.trans (hb3.mono (by omega))).trans (hb4.mono (by have := hb3.size; omega))⟩
  · have e1 := M.dec_no he
    rw [e1] at k1
    generalize (M.decodeL s).2 = ec at *
    go_wp2_with fail
    refine k1.out.mono ?_
    rintro e w2 ⟨⟨l, d, xs, a, cap, rfl, hx, hL⟩, hb2⟩
    obtain ⟨rfl, rfl, rfl⟩ := M.It.mk.inj hx
    have hb02 := hb1.trans (hb2.mono hb1.size)
    have hA := Box.new w2 false [] (.slice a 0 cap) 24
    have hq : Below w2.heap.size w2 (w2.alloc (.cells #[.bool false, .string ⟨#[]⟩, .slice a 0 cap] 24)) := by (repeat (first | exact Below.refl _ _ | refine Below.drew ?_ | refine Below.alloc ?_ (by first | omega | (simp; omega) | simp) _ | refine Below.setCell ?_ (by first | omega | (simp; omega) | simp) _))
    have hz : (w2.alloc (.cells #[.bool false, .string ⟨#[]⟩, .slice a 0 cap] 24)).heap.size = w2.heap.size + 1 := by simp
    have hb02a := hb02.trans (hq.mono hb02.size)
    have k2 := same_any false false [] [] [] [] (.slice a 0 cap) (.slice none 0 0) _ ((hL.from_ hq).mono (by omega)) (.nil_ (by decide)) (by decide) (by decide)
    rw [(M.sameI_iff _ _).2 rfl] at k2
    have K2 := Lib.hid k2
    clear hx k1 k2 hL e1
    go_wp2_with fail
    refine K2.out.mono ?_
    rintro e w3 ⟨rfl, hb3⟩
    go_wp2_with fail
    go_ret
    exact ⟨rfl, hb02a.trans (hb3.mono hb02a.size)⟩
end Go.Proofs.YtcjhgnepehnjjaaDoor
