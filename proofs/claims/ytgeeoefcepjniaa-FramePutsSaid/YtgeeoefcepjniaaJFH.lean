/- The law FramePuts. -/
import Derived.Test.YtgeeoefcepjniaaJFA
import Derived.Test.YtgeeoefcepjniaaJFC
import Derived.Test.YtgeeoefcepjniaaJFG
namespace Go.Proofs.Ytgeeoefcepjniaa
open Go Go.RowKit
attribute [local go_sem] Oper.semAt_some

theorem fs_one (W : World) (f : M.Fr) : Fs (W.alloc (.cells #[.string ⟨f.id.toArray⟩, .int .i64 f.num, .string ⟨f.data.toArray⟩, .bool f.last] 24)) (W.alloc (.cells #[.string ⟨f.id.toArray⟩, .int .i64 f.num, .string ⟨f.data.toArray⟩, .bool f.last] 24)).heap.size [f] (.slice (some ⟨W.heap.size, 0, none⟩) [f].length 1) := by
  refine .row (by simp) (by simp) (by decide) ?_ ?_ ?_ ?_ <;> intro i g h <;> match i, h with
    | 0, h => cases h; simp [go_sem]
    | i + 1, h => simp at h

set_option maxRecDepth 100000 in
set_option maxHeartbeats 16000000 in
theorem puts14_law (ls : List M.Fr) (a : Option Addr) (cap : Nat) (f : M.Fr) (w : World) (hL : Fs w w.heap.size ls (.slice a ls.length cap)) : Calls Try.prog 3 #[.slice a ls.length cap, frv f] w fun e w' => e = .returned (.bool true) ∧ Below w.heap.size w w' := by
  obtain ⟨w0, hw0⟩ : ∃ w0, w.alloc (.cells #[.string ⟨f.id.toArray⟩, .int .i64 f.num, .string ⟨f.data.toArray⟩, .bool f.last] 24) = w0 := ⟨_, rfl⟩
  have hb0 : Below w.heap.size w w0 := by rw [← hw0]; exact (Below.refl _ _).alloc (Nat.le_refl _) _
  have hX0 : FrBox w0 w.heap.size f := by rw [← hw0]; exact FrBox.new w f _
  have hlt : w.heap.size < w0.heap.size := by rw [← hw0]; simp
  have HW0 := Lib.hid hw0
  have HB := Lib.hid hb0
  have HX := Lib.hid (fun W (h : Below w0.heap.size w0 W) => hX0.from_ h hlt)
  have HL := Lib.hid (fun W (h : Below w0.heap.size w0 W) => (hL.kept hb0).kept h)
  have HW := Lib.hid works14
  have HC := Lib.hid (fun W => fcheck_any f W)
  have HRC := Lib.hid (fun W => rfcheck_any f W)
  have HO := Lib.hid (fun W => fone_any f W)
  have HRO := Lib.hid (fun W => rone14_any f W)
  have HP := Lib.hid (fun W (h : Fs W W.heap.size ls (.slice a ls.length cap)) => fput_any ls a cap W h)
  have HRP := Lib.hid (fun W (h : Fs W W.heap.size ls (.slice a ls.length cap)) => rput14_any ls a cap W h)
  have HF1 := Lib.hid (fun W => fs_one W f)
  generalize M.putF ls = pf at *
  generalize M.oneF f = of at *
  generalize M.chkF f = cf at *
  obtain ⟨p1, p2⟩ := pf
  obtain ⟨o1, o2⟩ := of
  dsimp only at *
  clear hw0 hb0 hX0 hlt hL
  obtain ⟨c0, c1, c2, c3⟩ := HX.out _ (Below.refl _ _)
  go_enter Try.func3, Try.ntmps3
  go_wp2_with (rw [HW0.out])
  refine (HW.out _).mono ?_
  rintro e w1 ⟨rfl, b1⟩
  clear c0 c1 c2 c3
  go_wp2_with fail
  refine (rfew14_any ls a cap w1 (HL.out _ b1)).mono ?_
  rintro e w1' ⟨⟨q, rfl, _⟩, rfl⟩
  cases q
  · go_wp2_with fail
    go_ret
    exact ⟨rfl, HB.out.trans (b1.mono HB.out.size)⟩
  · obtain ⟨c0, c1, c2, c3⟩ := HX.out _ b1
    go_wp2_with fail
    refine (rfew14_any [f] _ _ _ (HF1.out w1')).mono ?_
    rintro e w2 ⟨⟨q, rfl, _⟩, rfl⟩
    clear c0 c1 c2 c3
    have b2 : Below w0.heap.size w0 (w1'.alloc (.cells #[.string ⟨f.id.toArray⟩, .int .i64 f.num, .string ⟨f.data.toArray⟩, .bool f.last] 24)) := b1.alloc b1.size _
    obtain ⟨w2, hw2⟩ : ∃ w2, w1'.alloc (.cells #[.string ⟨f.id.toArray⟩, .int .i64 f.num, .string ⟨f.data.toArray⟩, .bool f.last] 24) = w2 := ⟨_, rfl⟩
    rw [hw2] at b2 ⊢
    clear hw2
    cases q
    · go_wp2_with fail
      go_ret
      exact ⟨rfl, HB.out.trans (b2.mono HB.out.size)⟩
    · obtain ⟨c0, c1, c2, c3⟩ := HX.out _ b2
      go_wp2_with fail
      refine (HRC.out _).mono ?_
      rintro e w3 ⟨rfl, hb⟩
      have b3 := b2.trans (hb.mono b2.size)
      clear c0 c1 c2 c3 hb b2
      obtain ⟨c0, c1, c2, c3⟩ := HX.out _ b3
      go_wp2_with fail
      refine (HO.out _).mono ?_
      rintro e w4 ⟨rfl, hb⟩
      have b4 := b3.trans (hb.mono b3.size)
      clear c0 c1 c2 c3 hb b3
      obtain ⟨c0, c1, c2, c3⟩ := HX.out _ b4
      go_wp2_with fail
      refine (HRO.out _).mono ?_
      rintro e w5 ⟨rfl, hb⟩
      have b5 := b4.trans (hb.mono b4.size)
      clear c0 c1 c2 c3 hb b4
      go_wp2_with fail
      refine (HP.out _ (HL.out _ b5)).mono ?_
      rintro e w6 ⟨rfl, hb⟩
      have b6 := b5.trans (hb.mono b5.size)
      clear hb b5
      go_wp2_with fail
      refine (HRP.out _ (HL.out _ b6)).mono ?_
      rintro e w7 ⟨rfl, hb⟩
      have b7 := b6.trans (hb.mono b6.size)
      clear hb b6
      obtain ⟨c0, c1, c2, c3⟩ := HX.out _ b7
      go_wp2_with fail
      refine (HC.out _).mono ?_
      rintro e w8 ⟨rfl, hb⟩
      have b8 := b7.trans (hb.mono b7.size)
      clear c0 c1 c2 c3 hb b7
      go_wp2_with fail
      go_ret
      exact ⟨by simp, HB.out.trans (b8.mono HB.out.size)⟩
end Go.Proofs.Ytgeeoefcepjniaa
