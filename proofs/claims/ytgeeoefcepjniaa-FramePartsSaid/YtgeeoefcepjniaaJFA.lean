/- The example of layer 14. -/
import Derived.Test.YtgeeoefcepjniaaJF9
import Derived.Test.YtgeeoefcepjniaaJF5
namespace Go.Proofs.Ytgeeoefcepjniaa
open Go Go.RowKit
attribute [local go_sem] Oper.semAt_some

namespace M
def I14 : List UInt8 := [48, 49, 50, 51, 52, 53, 54, 55, 56, 57, 97, 98, 99, 100, 101, 102]
def F14 : Fr := ⟨I14, 258, [120, 121, 122], true⟩
def G14 : Fr := ⟨I14, 0, [], false⟩
def S14 : List UInt8 := bytF F14
def T14 : List UInt8 := 0 :: allF [F14, G14]
theorem chk14 : chkF F14 = 0 ∧ chkF G14 = 0 := by decide +kernel
theorem one14 : oneF F14 = (S14, 0) := by unfold oneF; rw [if_pos chk14.1]; rfl
theorem fir14 : firF [F14, G14] = 0 := by unfold firF; rw [if_pos chk14.1]; unfold firF; rw [if_pos chk14.2]; rfl
theorem put14 : putF [F14, G14] = (T14, 0) := by
  show (if [F14, G14].length = 0 then (([] : List UInt8), 2) else if 32 < [F14, G14].length then ([], 5) else if firF [F14, G14] = 0 then (0 :: allF [F14, G14], 0) else ([], firF [F14, G14])) = _
  rw [if_neg (by decide), if_neg (by decide), if_pos fir14]
  rfl
theorem get_put {fs : List Fr} (h1 : fs ≠ []) (h2 : firF fs = 0) (h3 : fs.length ≤ 32) : getF (0 :: allF fs) = (fs, 0) := getR_put 32 fs h1 h2 h3
theorem get14 : getF T14 = ([F14, G14], 0) := get_put (by simp) fir14 (by simp)
theorem bad14 : getF (1 :: S14) = ([], 9) := rfl
theorem len14 : S14.length = 26 ∧ T14.length = 50 := by decide +kernel
theorem drop14 : S14.drop 16 = [1, 2, 0, 0, 0, 3, 120, 121, 122, 1] := by decide +kernel
theorem next14 : leadE S14 = 0 ∧ isF S14 = F14 ∧ lenF S14 = 3 := by
  obtain ⟨h1, _, h3, h4⟩ := lead_parts chk14.1 []
  rw [List.append_nil] at h1 h3 h4
  exact ⟨h4, h3, h1⟩
end M

/-- The example's frame, in its box. -/
def X14 (W : World) (b : Nat) : Prop := W.cell? ⟨b, 0, none⟩ = some (.string ⟨#[48, 49, 50, 51, 52, 53, 54, 55, 56, 57, 97, 98, 99, 100, 101, 102]⟩) ∧ W.cell? ⟨b, 1, none⟩ = some (.int .i64 258) ∧ W.cell? ⟨b, 2, none⟩ = some (.string ⟨#[120, 121, 122]⟩) ∧ W.cell? ⟨b, 3, none⟩ = some (.bool true)
theorem X14.of {W : World} {b : Nat} (h : FrBox W b M.F14) : X14 W b := ⟨h.c0, h.c1, h.c2, h.c3⟩
theorem fs14 (W : World) : Fs (W.alloc (.cells #[.string ⟨#[48, 49, 50, 51, 52, 53, 54, 55, 56, 57, 97, 98, 99, 100, 101, 102]⟩, .int .i64 258, .string ⟨#[120, 121, 122]⟩, .bool true, .string ⟨#[48, 49, 50, 51, 52, 53, 54, 55, 56, 57, 97, 98, 99, 100, 101, 102]⟩, .int .i64 0, .string ⟨#[]⟩, .bool false] 24)) (W.alloc (.cells #[.string ⟨#[48, 49, 50, 51, 52, 53, 54, 55, 56, 57, 97, 98, 99, 100, 101, 102]⟩, .int .i64 258, .string ⟨#[120, 121, 122]⟩, .bool true, .string ⟨#[48, 49, 50, 51, 52, 53, 54, 55, 56, 57, 97, 98, 99, 100, 101, 102]⟩, .int .i64 0, .string ⟨#[]⟩, .bool false] 24)).heap.size [M.F14, M.G14] (.slice (some ⟨W.heap.size, 0, none⟩) [M.F14, M.G14].length 2) := by
  refine .row (by simp) (by decide) (by decide) ?_ ?_ ?_ ?_ <;> intro i f h <;> match i, h with
    | 0, h => cases h; simp [go_sem]; rfl
    | 1, h => cases h; simp [go_sem]; rfl
    | i + 2, h => simp at h

set_option maxRecDepth 100000 in
set_option maxHeartbeats 16000000 in
theorem works14 (w : World) : Calls Try.prog 8 #[] w fun e w' => e = .returned (.bool true) ∧ Below w.heap.size w w' := by
  obtain ⟨w0, hw0⟩ : ∃ w0, w.alloc (.cells #[.string ⟨#[48, 49, 50, 51, 52, 53, 54, 55, 56, 57, 97, 98, 99, 100, 101, 102]⟩, .int .i64 258, .string ⟨#[120, 121, 122]⟩, .bool true] 24) = w0 := ⟨_, rfl⟩
  have hX0 : FrBox w0 w.heap.size M.F14 := by rw [← hw0]; exact FrBox.new w M.F14 _
  have hb0 : Below w.heap.size w w0 := by rw [← hw0]; exact (Below.refl _ _).alloc (Nat.le_refl _) _
  have hlt0 : w.heap.size < w0.heap.size := by rw [← hw0]; simp
  have HW := Lib.hid hw0
  have HX := Lib.hid (fun W (h : Below w0.heap.size w0 W) => X14.of (hX0.from_ h hlt0))
  have HB := Lib.hid hb0
  have HO := Lib.hid (fun W => fone_any M.F14 W)
  rw [M.one14] at HO
  have HP := Lib.hid (fun a cap W (h : Fs W W.heap.size [M.F14, M.G14] (.slice a [M.F14, M.G14].length cap)) => fput_any [M.F14, M.G14] a cap W h)
  rw [M.put14] at HP
  have HG := Lib.hid (fun W => fget_any M.T14 W (by rw [M.len14.2]; omega))
  rw [M.get14] at HG
  have HN := Lib.hid (fun W => fput_any [] none 0 W (.nil_ (by decide)))
  rw [show M.putF [] = ([], 2) from rfl] at HN
  have HB9 := Lib.hid (fun W => fget_any (1 :: M.S14) W (by rw [List.length_cons, M.len14.1]; omega))
  rw [M.bad14] at HB9
  have hn1 := fun W => fnext_any (97 :: 98 :: M.S14) 2 W (by simp only [List.length_cons]; rw [M.len14.1]; omega) (by simp)
  have hd2 : (97 :: 98 :: M.S14).drop 2 = M.S14 := rfl
  rw [hd2] at hn1
  have hnx : M.nxN 2 M.S14 = 28 := by unfold M.nxN; rw [if_pos M.next14.1, M.next14.2.2]
  have hld : M.ldF M.S14 = M.F14 := by unfold M.ldF; rw [if_pos M.next14.1, M.next14.2.1]
  rw [hnx, hld, M.next14.1] at hn1
  rw [show frv M.F14 = .agg #[.string ⟨#[48, 49, 50, 51, 52, 53, 54, 55, 56, 57, 97, 98, 99, 100, 101, 102]⟩, .int .i64 258, .string ⟨#[120, 121, 122]⟩, .bool true] from rfl] at hn1
  have HNX := Lib.hid hn1
  have HC := Lib.hid (fun W => fcheck_any M.F14 W)
  rw [M.chk14.1] at HC
  have HC0 := Lib.hid (fun W => fcheck_any M.noF W)
  rw [show M.chkF M.noF = 2 from rfl] at HC0
  have hl1 := M.len14.1
  have hl2 := M.len14.2
  have hx26 := cutb M.S14 16
  rw [M.len14.1, M.drop14] at hx26
  clear hn1 hd2 hnx hld hw0 hX0 hb0 hlt0
  generalize M.S14 = S at *
  generalize M.T14 = T at *
  go_enter Try.func8, Try.ntmps8
  obtain ⟨c0, c1, c2, c3⟩ := HX.out _ (Below.refl _ _)
  go_wp2_with (rw [HW.out])
  refine (HO.out _).mono ?_
  rintro e w1 ⟨rfl, b1⟩
  clear c0 c1 c2 c3 HW HO
  obtain ⟨c0, c1, c2, c3⟩ := HX.out _ b1
  go_wp2_with fail
  refine (HP.out _ _ _ (fs14 w1)).mono ?_
  rintro e w2 ⟨rfl, hb⟩
  have b2 := b1.trans (((Below.refl _ w1).alloc b1.size _).trans (hb.mono (by have := b1.size; simp; omega)))
  clear hb c0 c1 c2 c3 HP b1
  go_wp2_with fail
  refine (HG.out _).mono ?_
  rintro e w3 ⟨a3, p3, rfl, _, hb⟩
  have b3 := b2.trans (hb.mono b2.size)
  clear hb HG b2
  go_wp2_with fail
  refine (HN.out _).mono ?_
  rintro e w4 ⟨rfl, hb⟩
  have b4 := b3.trans (hb.mono b3.size)
  clear hb HN b3
  go_wp2_with fail
  rw [show (⟨#[1]⟩ : ByteArray) ++ ⟨S.toArray⟩ = ⟨(1 :: S).toArray⟩ from cat_eq [1] S]
  refine (HB9.out _).mono ?_
  rintro e w5 ⟨a5, p5, rfl, _, hb⟩
  have b5 := b4.trans (hb.mono b4.size)
  clear hb HB9 b4
  go_wp2_with fail
  rw [show (⟨#[97, 98]⟩ : ByteArray) ++ ⟨S.toArray⟩ = ⟨(97 :: 98 :: S).toArray⟩ from cat_eq [97, 98] S]
  refine (HNX.out _).mono ?_
  rintro e w6 ⟨rfl, hb⟩
  have b6 := b5.trans (hb.mono b5.size)
  clear hb HNX b5
  obtain ⟨w7, hw7⟩ : ∃ w7, w6.alloc (.cells #[.string ⟨#[48, 49, 50, 51, 52, 53, 54, 55, 56, 57, 97, 98, 99, 100, 101, 102]⟩, .int .i64 258, .string ⟨#[120, 121, 122]⟩, .bool true] 24) = w7 := ⟨_, rfl⟩
  have b7 : Below w0.heap.size w0 w7 := by rw [← hw7]; exact b6.alloc b6.size _
  obtain ⟨x0, x1, x2, x3⟩ : X14 w7 w6.heap.size := by rw [← hw7]; exact X14.of (FrBox.new w6 M.F14 _)
  obtain ⟨c0, c1, c2, c3⟩ := HX.out _ b7
  have HW7 := Lib.hid hw7
  have hx7 : w6.heap.size < w7.heap.size := by rw [← hw7]; simp
  clear hw7 b6
  go_wp2_with (rw [HW7.out])
  refine (HC.out _).mono ?_
  rintro e w8 ⟨rfl, hb⟩
  have b8 := b7.trans (hb.mono b7.size)
  clear hb b7
  go_wp2_with fail
  refine (HC0.out _).mono ?_
  rintro e w9 ⟨rfl, hb⟩
  have b9 := b8.trans (hb.mono b8.size)
  go_wp2_with fail
  go_ret
  exact ⟨rfl, HB.out.trans (b9.mono HB.out.size)⟩
end Go.Proofs.Ytgeeoefcepjniaa
