/- The reference's begin. The reference's items: how many items a row of bytes has. The reference's offsets. The reference's rows that are got: plain facts, and rows of values of the call's own. The reference's Bytes, of one of several. The reference's Bytes, Put. The reference's unpack. The reference's Got, of bits. The reference's bitlist. The reference's rows that are got. -/
import Derived.Test.YtgloapcfmlijlaaGreatDoorK18
import Derived.Test.YtgloapcfmlijlaaGreatDoorK05
import Derived.Test.YtgloapcfmlijlaaGreatDoorK15
import Derived.Test.YtgloapcfmlijlaaGreatDoorK16
import Derived.Test.YtgloapcfmlijlaaGreatDoorK11
import Derived.Test.YtgloapcfmlijlaaGreatDoorK06
import Derived.Test.YtgloapcfmlijlaaGreatDoorK14
namespace Go.Proofs.YtgloapcfmlijlaaGreatDoor
open Go Go.RowKit

theorem M.ins_few {k n : Int} {ts : List M.Ty} {d : Nat} (h : M.chkT d (.mk k n ts) = 0) : ts.length ≤ 4000 := by
  obtain ⟨_, h2, _, _⟩ := M.chkT_ok.1 h
  unfold M.formT at h2
  split at h2
  · simp at h2; simp [h2]
  · split at h2
    · simp at h2; simp [h2]
    · split at h2
      · simp at h2; omega
      · split at h2
        · simp at h2; simp [h2]
        · split at h2
          · simp at h2; omega
          · simp at h2; omega
/-- Is there a type for an item, by its place? -/
def M.place (k : Int) (m : Nat) (p : Int) (i : Nat) : Prop := (k = 7 ∧ i < m) ∨ (k = 8 ∧ 0 ≤ p ∧ p < m) ∨ (k ≠ 7 ∧ k ≠ 8 ∧ 0 < m)
/-- An item's type, by its place. -/
theorem zin_at {k n : Int} {ts : List M.Ty} {at_ : Option Addr} {ct : Nat} {p : Int} {i d : Nat} {w : World} (hT : LayT w w.heap.size ts (.slice at_ ts.length ct)) (hc : M.chkT d (.mk k n ts) = 0) (hp : M.place k ts.length p i) :
    ∃ (k' m' : Int) (ts' : List M.Ty) (at' : Option Addr) (ct' : Nat), M.inT k ts p i = .mk k' m' ts' ∧ M.chkT (d + 1) (.mk k' m' ts') = 0 ∧ .mk k' m' ts' ∈ ts ∧ LayT w w.heap.size ts' (.slice at' ts'.length ct') ∧
      ∀ W, Below w.heap.size w W → ∀ N ub uv, Calls Tryz.prog 161 #[tv k n (.slice at_ ts.length ct), vv N ub uv p, .int .i64 i] W fun e w' => e = .returned (tv k' m' (.slice at' ts'.length ct')) ∧ Below W.heap.size W w' := by
  obtain ⟨j, hj, hin, hor⟩ : ∃ j, j < ts.length ∧ M.inT k ts p i = ts[j]?.getD default ∧ ((k = 7 ∧ i = j) ∨ (k ≠ 7 ∧ k = 8 ∧ p = j) ∨ (k ≠ 7 ∧ k ≠ 8 ∧ j = 0)) := by
    rcases hp with ⟨h, hi⟩ | ⟨h, h0, h1⟩ | ⟨h7, h8, h0⟩
    · exact ⟨i, hi, by unfold M.inT; rw [if_pos h], .inl ⟨h, rfl⟩⟩
    · exact ⟨p.toNat, by omega, by unfold M.inT; rw [if_neg (by omega), if_pos h], .inr (.inl ⟨by omega, h, by omega⟩)⟩
    · exact ⟨0, h0, by unfold M.inT; rw [if_neg h7, if_neg h8], .inr (.inr ⟨h7, h8, rfl⟩)⟩
  obtain ⟨b, o, k', m', ts', at', ct', rfl, hbn, hti, e0, e1, e2, hT'⟩ := hT.at_ hj
  have hmem := List.mem_of_getElem? hti
  refine ⟨k', m', ts', at', ct', by rw [hin, hti]; rfl, M.chkTs_ok.1 (M.chkT_ok.1 hc).2.2.2 _ hmem, hmem, hT', fun W h N ub uv => ?_⟩
  exact tin_any k n ts.length ct b o N ub uv p i j k' m' at' ts'.length ct' W hj (Nat.lt_of_lt_of_le hbn h.size) (M.ins_few hc) hor ((h.cell (p := ⟨b, o + j * 3, none⟩) hbn).trans e0) ((h.cell (p := ⟨b, o + j * 3 + 1, none⟩) hbn).trans e1) ((h.cell (p := ⟨b, o + j * 3 + 2, none⟩) hbn).trans e2)
/-- The kinds of so many items. -/
def M.kds (k : Int) (ts : List M.Ty) (p : Int) (m : Nat) : List (Option Nat) := (List.range m).map fun i => M.kindOf (M.inT k ts p i)
theorem M.kds_succ (k : Int) (ts : List M.Ty) (p : Int) (m : Nat) : M.kds k ts p (m + 1) = M.kds k ts p m ++ [M.kindOf (M.inT k ts p m)] := by simp [M.kds, List.range_succ]
theorem M.hdLen_append : ∀ (a b : List (Option Nat)), M.hdLen (a ++ b) = M.hdLen a + M.hdLen b
  | [], b => by rw [List.nil_append, M.hdLen]; omega
  | some z :: a, b => by rw [List.cons_append, M.hdLen, M.hdLen, M.hdLen_append a b]; omega
  | none :: a, b => by rw [List.cons_append, M.hdLen, M.hdLen, M.hdLen_append a b]; omega
theorem M.hd_one {t : M.Ty} (hc : M.chkT 1 t = 0) : M.hdLen [M.kindOf t] ≤ 2251799813685248 := by
  unfold M.kindOf
  split
  · have := M.szT_most t 1 hc
    rw [M.hdLen, M.hdLen]
    omega
  · rw [M.hdLen, M.hdLen]; omega
theorem M.hd_fix {t : M.Ty} (hc : M.chkT 1 t = 0) : M.hdLen [M.kindOf t] = if M.fixedT t = true then M.sizeT t else 4 := by
  have hc0 := M.chkT_mono t 1 0 hc (by omega)
  have e : M.fixedT t = M.fixT t := by rw [M.fixedT, if_pos hc0]
  unfold M.kindOf
  rw [e]
  split
  · rename_i hf
    rw [M.hdLen, M.hdLen, M.sizeT, e, if_pos hf]
    omega
  · rw [M.hdLen, M.hdLen]

set_option maxRecDepth 100000 in
set_option maxHeartbeats 4000000 in
theorem zbegin_any (k n : Int) (ts : List M.Ty) (at_ : Option Addr) (ct : Nat) (N : Nat) (ub uv : Value) (p : Int) (many : Nat) (w : World) (hT : LayT w w.heap.size ts (.slice at_ ts.length ct)) (hc : M.chkT 0 (.mk k n ts) = 0) (hm : many ≤ 1000) (hp : ∀ i, i < many → M.place k ts.length p i) :
    Calls Tryz.prog 191 #[tv k n (.slice at_ ts.length ct), vv N ub uv p, .int .i64 many] w fun e w' => e = .returned (.int .i64 (M.hdLen (M.kds k ts p many) : Nat)) ∧ Below w.heap.size w w' := by
  obtain ⟨w0, hw0⟩ : ∃ w0, (w.alloc (.cells #[.int .i64 k, .int .i64 n, .slice at_ ts.length ct] 24)).alloc (.cells #[.int .u64 (M.pt 0 N), .int .u64 (M.pt 1 N), .int .u64 (M.pt 2 N), .int .u64 (M.pt 3 N), ub, uv, .int .i64 p] 33) = w0 := ⟨_, rfl⟩
  have hb0 : Below w.heap.size w w0 := by rw [← hw0]; exact two_boxes _ _ _
  have hz0 : w0.heap.size = w.heap.size + 2 := by rw [← hw0]; simp
  have hB0 : BoxT w0 w.heap.size k n (.slice at_ ts.length ct) := by rw [← hw0]; exact ⟨by simp [go_sem], by simp [go_sem], by simp [go_sem]⟩
  have hA0 : Cells7 w0 (w.heap.size + 1) 0 N ub uv p := by
    rw [← hw0]
    have := Cells7.new (w.alloc (.cells #[.int .i64 k, .int .i64 n, .slice at_ ts.length ct] 24)) N ub uv p 33
    rwa [World.size_alloc] at this
  have HW := Lib.hid hw0
  clear hw0
  go_enter Tryz.func191, Tryz.ntmps191
  go_wp2_with fail
  rw [HW.out]
  go_loopw [7, 8] (fun q i wr => ∃ (j s : Nat), j ≤ many ∧ i = .int .i64 j ∧ q = .int .i64 s ∧ M.hdLen (M.kds k ts p j) = s ∧ s ≤ j * 2251799813685248 ∧ Below w0.heap.size w0 wr)
    (fun _ i _ => many - (intOf i).toNat)
  case atStart => exact ⟨0, 0, by omega, rfl, rfl, rfl, by omega, Below.refl _ _⟩
  case round =>
    obtain ⟨j, s, hj, rfl, rfl, hs, hs2, LW⟩ := hrel
    have hbW : Below w.heap.size w wr := hb0.trans (LW.mono hb0.size)
    by_cases hlt : j < many
    · obtain ⟨k', m', ts', at', ct', hin, hc1, _, hT', HI⟩ := zin_at ((hT.from_ hbW).mono hbW.size) hc (hp j hlt)
      have HI := Lib.hid HI
      have H1 := Lib.hid (M.hd_one hc1)
      have HN := M.kds_succ k ts p j
      rw [hin] at HN
      have HF := M.hd_fix hc1
      have hsum : M.hdLen (M.kds k ts p (j + 1)) = s + M.hdLen [M.kindOf (.mk k' m' ts')] := by rw [HN, M.hdLen_append, hs]
      have HFX := Lib.hid (fun W (h : Below wr.heap.size wr W) => tfixed_any k' m' ts' at' ct' W ((hT'.from_ h).mono h.size))
      have HSZ := Lib.hid (fun W (h : Below wr.heap.size wr W) => tsize_any k' m' ts' at' ct' W ((hT'.from_ h).mono h.size))
      rw [HF] at hsum
      have HS := Lib.hid hsum
      have hsl : (if M.fixedT (.mk k' m' ts') = true then M.sizeT (.mk k' m' ts') else 4) ≤ 2251799813685248 := by rw [← HF]; exact H1.out
      generalize M.fixedT (.mk k' m' ts') = fx at *
      generalize M.sizeT (.mk k' m' ts') = sz at *
      clear hin HN HF hsum hc1 hT' H1
      have hB1 := hB0.from_ LW (by omega)
      have t0 := hB1.c0
      have t1 := hB1.c1
      have t2 := hB1.c2
      have hA1 := hA0.from_ LW (by omega)
      have a0 := hA1.c0
      have a1 := hA1.c1
      have a2 := hA1.c2
      have a3 := hA1.c3
      have a4 := hA1.c4
      have a5 := hA1.c5
      have a6 := hA1.c6
      simp only [Nat.zero_add] at a1 a2 a3 a4 a5 a6
      go_wp2_with fail
      refine (HI.out wr (Below.refl _ _) N ub uv).mono ?_
      rintro e w2 ⟨rfl, hb2⟩
      clear t0 t1 t2 a0 a1 a2 a3 a4 a5 a6
      obtain ⟨w3, hw3⟩ : ∃ w3, w2.alloc (.cells #[.int .i64 k', .int .i64 m', .slice at' ts'.length ct'] 24) = w3 := ⟨_, rfl⟩
      have hz3 : w3.heap.size = w2.heap.size + 1 := by rw [← hw3]; simp
      have hb3 : Below w2.heap.size w2 w3 := by rw [← hw3]; exact (Below.refl _ _).alloc (Nat.le_refl _) _
      have hB3 : BoxT w3 w2.heap.size k' m' (.slice at' ts'.length ct') := by rw [← hw3]; exact BoxT.new _ _ _ _ _
      have hbr3 : Below wr.heap.size wr w3 := Below.trans hb2 (hb3.mono hb2.size)
      have HW3 := Lib.hid hw3
      clear hw3
      go_wp2_with fail
      rw [HW3.out]
      refine (HFX.out _ hbr3).mono ?_
      rintro e w4 ⟨rfl, hb4⟩
      have hbr4 : Below wr.heap.size wr w4 := hbr3.trans (Below.mono hb4 hbr3.size)
      cases fx with
      | false =>
        go_wp2_with fail
        refine ⟨⟨j + 1, s + 4, by omega, by simp, by simp, ?_, ?_, LW.trans (hbr4.mono LW.size)⟩, by simp [intOf]; omega⟩
        · exact HS.out
        · omega
      | true =>
        have hB4 := hB3.from_ hb4 (by omega)
        have t0 := hB4.c0
        have t1 := hB4.c1
        have t2 := hB4.c2
        simp only [if_pos] at hsl
        go_wp2_with fail
        refine (HSZ.out _ hbr4).mono ?_
        rintro e w5 ⟨rfl, hb5⟩
        clear t0 t1 t2
        go_wp2_with fail
        refine ⟨⟨j + 1, s + sz, by omega, by simp, by simp, ?_, ?_, LW.trans ((hbr4.trans (Below.mono hb5 hbr4.size)).mono LW.size)⟩, by simp [intOf]; omega⟩
        · exact HS.out
        · omega
    · obtain rfl : j = many := by omega
      have hs' := Lib.hid hs
      go_wp2_with fail
      go_ret
      refine ⟨?_, hbW⟩
      rw [hs'.out]
      rfl
end Go.Proofs.YtgloapcfmlijlaaGreatDoor
namespace Go.Proofs.YtgloapcfmlijlaaGreatDoor
open Go Go.RowKit Go.Lib
attribute [local go_sem] Oper.semAt_some

set_option maxRecDepth 100000 in
set_option maxHeartbeats 4000000 in
theorem zitems_7 (n : Int) (ts : List M.Ty) (a : Option Addr) (cap : Nat) (s : List UInt8) (w : World) :
    Calls Tryz.prog 159 #[tv 7 n (.slice a ts.length cap), .string ⟨s.toArray⟩] w fun e w' => e = .returned (.tuple #[.int .i64 (ts.length : Nat), .int .i64 0]) ∧ Below w.heap.size w w' := by
  go_enter Tryz.func159, Tryz.ntmps159
  go_wp2_with fail
  go_ret2
  exact ⟨rfl, (Below.refl _ _).alloc (Nat.le_refl _) _⟩
set_option maxRecDepth 100000 in
set_option maxHeartbeats 4000000 in
theorem zitems_3 (n : Int) (v : Value) (s : List UInt8) (w : World) :
    Calls Tryz.prog 159 #[tv 3 n v, .string ⟨s.toArray⟩] w fun e w' => e = .returned (.tuple #[.int .i64 n, .int .i64 0]) ∧ Below w.heap.size w w' := by
  go_enter Tryz.func159, Tryz.ntmps159
  go_wp2_with fail
  go_ret2
  exact ⟨rfl, (Below.refl _ _).alloc (Nat.le_refl _) _⟩
set_option maxRecDepth 100000 in
set_option maxHeartbeats 4000000 in
theorem zitems_4 (n : Int) (t : M.Ty) (a : Option Addr) (cap : Nat) (s : List UInt8) (w : World) (hL : LayT w w.heap.size [t] (.slice a 1 cap)) (hc0 : M.chkT 0 t = 0) (h : s.length ≤ 8000) :
    Calls Tryz.prog 159 #[tv 4 n (.slice a 1 cap), .string ⟨s.toArray⟩] w fun e w' => e = .returned (.tuple #[.int .i64 ((itE (M.fixedT t) (wdT t) n s).1 : Nat), .int .i64 ((itE (M.fixedT t) (wdT t) n s).2 : Nat)]) ∧ Below w.heap.size w w' := by
  by_cases hs : s = []
  · subst hs
    rw [show itE (M.fixedT t) (wdT t) n [] = (0, 0) from rfl]
    go_enter Tryz.func159, Tryz.ntmps159
    go_wp2_with fail
    go_ret2
    exact ⟨rfl, (Below.refl _ _).alloc (Nat.le_refl _) _⟩
  obtain ⟨b, o, k', m', us, ua, uc, rfl, hbn, ht, c0, c1, c2, hLt⟩ := hL.at_ (i := 0) (by simp)
  obtain rfl : t = .mk k' m' us := by simpa using ht
  simp only [Nat.zero_mul, Nat.add_zero] at c0 c1 c2
  obtain ⟨w0, hw0⟩ : ∃ w0, w.alloc (.cells #[.int .i64 4, .int .i64 n, .slice (some ⟨b, o, none⟩) 1 cap] 24) = w0 := ⟨_, rfl⟩
  have hb0 : Below w.heap.size w w0 := by rw [← hw0]; exact (Below.refl _ _).alloc (Nat.le_refl _) _
  have hz0 : w.heap.size < w0.heap.size := by rw [← hw0]; simp
  have hB0 : BoxT w0 w.heap.size 4 n (.slice (some ⟨b, o, none⟩) 1 cap) := by rw [← hw0]; exact ⟨by simp [go_sem], by simp [go_sem], by simp [go_sem]⟩
  have he : s.isEmpty = false := by cases s with | nil => exact absurd rfl hs | cons _ _ => rfl
  have HFX := Lib.hid (tfixed_any k' m' us ua uc w0 ((hLt.from_ hb0).mono hb0.size))
  have HSZ := Lib.hid (fun W (hW : Below w0.heap.size w0 W) => tsize_any k' m' us ua uc W ((hLt.from_ (hb0.trans (hW.mono hb0.size))).mono (hb0.trans (hW.mono hb0.size)).size))
  have d0 := (hb0.cell (p := ⟨b, o, none⟩) hbn).trans c0
  have d1 := (hb0.cell (p := ⟨b, o + 1, none⟩) hbn).trans c1
  have d2 := (hb0.cell (p := ⟨b, o + 2, none⟩) hbn).trans c2
  have t0 := hB0.c0
  have t1 := hB0.c1
  have t2 := hB0.c2
  have hwd : wdT (.mk k' m' us) = if M.fixedT (.mk k' m' us) = true then M.sizeT (.mk k' m' us) else 4 := rfl
  have hpos : M.fixedT (.mk k' m' us) = true → 1 ≤ M.sizeT (.mk k' m' us) := fun hf => by
    rw [M.sizeT_fix hf]
    exact M.szT_pos _ 0 hc0 (M.fixedT_ok.1 hf).2
  generalize wdT (.mk k' m' us) = wd at *
  generalize M.sizeT (.mk k' m' us) = sz at *
  generalize M.fixedT (.mk k' m' us) = f at *
  obtain ⟨T, hT⟩ : ∃ T, itE f wd n s = T := ⟨_, rfl⟩
  rw [hT]
  have HT := Lib.hid hT
  have HW := Lib.hid hw0
  have hbn0 : b < w0.heap.size := Nat.lt_of_lt_of_le hbn hb0.size
  rw [← HW.out] at t0 t1 t2 d0 d1 d2
  clear hT hw0 hL hLt ht c0 c1 c2
  go_enter Tryz.func159, Tryz.ntmps159
  go_wp2_with fail
  rw [HW.out]
  refine HFX.out.mono ?_
  rintro e w1 ⟨rfl, hb1⟩
  have hbw1 := hb0.trans (Below.mono hb1 hb0.size)
  rw [HW.out] at t0 t1 t2 d0 d1 d2
  have u0 := (Below.cell hb1 (p := ⟨w.heap.size, 0, none⟩) hz0).trans t0
  have u1 := (Below.cell hb1 (p := ⟨w.heap.size, 1, none⟩) hz0).trans t1
  have u2 := (Below.cell hb1 (p := ⟨w.heap.size, 2, none⟩) hz0).trans t2
  have g0 := (Below.cell hb1 (p := ⟨b, o, none⟩) hbn0).trans d0
  have g1 := (Below.cell hb1 (p := ⟨b, o + 1, none⟩) hbn0).trans d1
  have g2 := (Below.cell hb1 (p := ⟨b, o + 2, none⟩) hbn0).trans d2
  clear t0 t1 t2 d0 d1 d2 HFX
  have mixed : Tryz.prog.follows .mixedOrders = true := by kernel_rfl
  cases f with
  | true =>
    rw [if_pos rfl] at hwd
    subst hwd
    have hsz1 := hpos rfl
    have HS1 := Lib.hid (HSZ.out w1 hb1)
    clear HSZ hpos
    obtain ⟨q, hq⟩ : ∃ q, s.length = q := ⟨_, rfl⟩
    have HQ := Lib.hid hq
    have hq9 : q ≤ 8000 := by omega
    have hdl : q / wd ≤ 8000 := Nat.le_trans (Nat.div_le_self _ _) hq9
    have HEM : Hid ((q : Int) % (wd : Int) = ((q % wd : Nat) : Int)) := (Int.natCast_emod q wd).symm
    have HDV : Hid ((q : Int) / (wd : Int) = ((q / wd : Nat) : Int)) := (Int.natCast_ediv q wd).symm
    have hwd0 : ¬ (wd : Int) = 0 := by omega
    have hwdn : ¬ wd = 0 := by omega
    have hwq : IntKind.i64.wrap ((q : Int) / wd) = (q : Int) / wd := by
      rw [HDV.out]
      generalize q / wd = d at hdl ⊢
      rw [IntKind.wrap_i64]
      omega
    have hwq2 : wrap64 ((q : Int) / wd) = (q : Int) / wd := by
      rw [HDV.out]
      generalize q / wd = d at hdl ⊢
      unfold wrap64
      omega
    have hd0 : (0 : Int) ≤ (q : Int) / wd := by rw [HDV.out]; exact Int.natCast_nonneg _
    have hd1 : (q : Int) / wd ≤ 8000 := by rw [HDV.out]; exact Int.ofNat_le.2 hdl
    go_wp2_with fail
    refine HS1.out.mono ?_
    rintro e w2 ⟨rfl, hb2⟩
    have hb02 : Below w0.heap.size w0 w2 := Below.trans hb1 (Below.mono hb2 (Below.size hb1))
    have hbw2 := hb0.trans (hb02.mono hb0.size)
    have v1 := (hb02.cell (p := ⟨w.heap.size, 1, none⟩) hz0).trans hB0.c1
    have hz2 : w.heap.size < w2.heap.size := Nat.lt_of_lt_of_le hz0 hb02.size
    clear u0 u1 u2 g0 g1 g2
    by_cases hr : q % wd = 0
    case neg =>
      have hne : ((q : Int) % wd != 0) = true := by rw [HEM.out]; simp; omega
      obtain rfl : T = (0, 2) := by rw [← HT.out]; unfold itE; rw [if_neg hs, if_pos rfl, HQ.out, if_pos hr]
      go_wp2_with fail
      go_ret2
      exact ⟨rfl, hbw2⟩
    have hne : ((q : Int) % wd != 0) = false := by rw [HEM.out, hr]; rfl
    go_wp2_with fail
    refine wp_region_held (S := fun Y => Below w2.heap.size w2 Y) mixed ?_
    have hS0 : (fun Y => Below w2.heap.size w2 Y) { w2 with drawn := w2.drawn + 1 } := Below.drew (Below.refl _ _)
    rw [show Array.replicate (Array.size _) false = #[false, false, false, false, false, false, false] from rfl, show Array.size (α := Oper) _ = 7 from rfl]
    refine wpAnyH_take (i := 0) (v := .string ⟨s.toArray⟩) rfl (by kernel_rfl) (by kernel_rfl) (by kernel_rfl) (fun _ _ _ h => h) (Or.inl ⟨by rfl, ?_⟩) hS0 ?_
    · intro Y hY
      skip
      go_simp
    simp only [Act.put, List.getElem_toArray, List.getElem_cons_zero, List.setIfInBounds_toArray, List.set_cons_zero, List.set_cons_succ]
    refine wpAnyH_take (i := 1) (v := .int .i64 (q : Nat)) rfl (by kernel_rfl) (by kernel_rfl) (by kernel_rfl) (fun _ _ _ h => h) (Or.inl ⟨by rfl, ?_⟩) hS0 ?_
    · intro Y hY
      skip
      go_simp
    simp only [Act.put, List.getElem_toArray, List.getElem_cons_succ, List.getElem_cons_zero, List.setIfInBounds_toArray, List.set_cons_zero, List.set_cons_succ]
    refine wpAnyH_take (i := 2) (v := .int .i64 (wd : Nat)) rfl (by kernel_rfl) (by kernel_rfl) (by kernel_rfl) (fun _ _ _ h => h) (Or.inl ⟨by rfl, ?_⟩) hS0 ?_
    · intro Y hY
      skip
      go_simp
    simp only [Act.put, List.getElem_toArray, List.getElem_cons_succ, List.getElem_cons_zero, List.setIfInBounds_toArray, List.set_cons_zero, List.set_cons_succ]
    refine wpAnyH_take (i := 3) (v := .int .i64 ((q : Int) / wd)) rfl (by kernel_rfl) (by kernel_rfl) (by kernel_rfl) (fun _ _ _ h => h) (Or.inl ⟨by rfl, ?_⟩) hS0 ?_
    · intro Y hY
      skip
      go_simp
      try exact hwq
    simp only [Act.put, List.getElem_toArray, List.getElem_cons_succ, List.getElem_cons_zero, List.setIfInBounds_toArray, List.set_cons_zero, List.set_cons_succ]
    refine wpAnyH_take (i := 4) (v := .pointer (some ⟨w.heap.size, 1, none⟩)) rfl (by kernel_rfl) (by kernel_rfl) (by kernel_rfl) (fun _ _ _ h => h) (Or.inl ⟨by rfl, ?_⟩) hS0 ?_
    · intro Y hY
      skip
      go_simp
    simp only [Act.put, List.getElem_toArray, List.getElem_cons_succ, List.getElem_cons_zero, List.setIfInBounds_toArray, List.set_cons_zero, List.set_cons_succ]
    refine wpAnyH_take (i := 5) (v := .int .i64 n) rfl (by kernel_rfl) (by kernel_rfl) (by kernel_rfl) (fun _ _ _ h => h) (Or.inl ⟨by rfl, ?_⟩) hS0 ?_
    · intro Y hY
      have e1 := (hY.cell (p := ⟨w.heap.size, 1, none⟩) hz2).trans v1
      go_simp
    simp only [Act.put, List.getElem_toArray, List.getElem_cons_succ, List.getElem_cons_zero, List.setIfInBounds_toArray, List.set_cons_zero, List.set_cons_succ]
    refine wpAnyH_take (i := 6) (v := .bool (decide (n < (q : Int) / wd))) rfl (by kernel_rfl) (by kernel_rfl) (by kernel_rfl) (fun _ _ _ h => h) (Or.inl ⟨by rfl, ?_⟩) hS0 ?_
    · intro Y hY
      skip
      go_simp
    simp only [Act.put, List.getElem_toArray, List.getElem_cons_succ, List.getElem_cons_zero, List.setIfInBounds_toArray, List.set_cons_zero, List.set_cons_succ]
    refine wpAnyH_done (by kernel_rfl) ?_ _
    have hbw3 : Below w.heap.size w { w2 with drawn := w2.drawn + 1 } := hbw2.trans (Below.mono hS0 hbw2.size)
    by_cases hn : n < (q : Int) / wd
    · obtain rfl : T = (0, 5) := by rw [← HT.out]; unfold itE; rw [if_neg hs, if_pos rfl, HQ.out, if_neg (by simpa using hr), if_pos (by rw [← HDV.out]; exact hn)]
      have hnn : decide (n < (q : Int) / wd) = true := decide_eq_true hn
      rw [hnn]
      clear hnn
      go_wp2_with fail
      go_ret2
      exact ⟨rfl, hbw3⟩
    · obtain rfl : T = (q / wd, 0) := by rw [← HT.out]; unfold itE; rw [if_neg hs, if_pos rfl, HQ.out, if_neg (by simpa using hr), if_neg (by rw [← HDV.out]; exact hn)]
      have hnn : decide (n < (q : Int) / wd) = false := decide_eq_false hn
      rw [hnn]
      clear hnn
      go_wp2_with fail
      go_ret2
      refine ⟨?_, hbw3⟩
      show Ending.returned (.tuple #[.int .i64 ((q : Int) / wd), .int .i64 0]) = .returned (.tuple #[.int .i64 ((q / wd : Nat) : Int), .int .i64 0])
      rw [HDV.out]
  | false =>
    rw [if_neg (by decide)] at hwd
    subst hwd
    clear HSZ hpos
    have HLW : Hid (4 ≤ s.length → ∀ W, Calls Tryz.prog 190 #[.string ⟨(s.take 4).toArray⟩] W fun e w' => e = .returned (.int .i64 (M.led (s.take 4) : Nat)) ∧ w' = W) := fun h4 W => zlow4_any (s.take 4) W (by rw [List.length_take]; omega)
    have hql := M.led_lt (s.take 4)
    obtain ⟨q, hq⟩ : ∃ q, M.led (s.take 4) = q := ⟨_, rfl⟩
    rw [hq] at HLW hql
    have HQ := Lib.hid hq
    clear hq
    by_cases h4 : 4 ≤ s.length
    case neg =>
      have h4i : (s.length : Int) < 4 := by omega
      obtain rfl : T = (0, 2) := by rw [← HT.out]; unfold itE; rw [if_neg hs, if_neg (by decide), if_pos (.inl (by omega))]
      go_wp2_with fail
      go_ret2
      exact ⟨rfl, hbw1⟩
    have h4i : ¬ (s.length : Int) < 4 := by omega
    have h4j : (4 : Int) ≤ s.length := by omega
    have HL4 := Lib.hid (HLW.out h4)
    have hq9 : q < 4294967296 := by rw [List.length_take, Nat.min_eq_left h4] at hql; exact hql
    have HEM : Hid ((q : Int) % 4 = ((q % 4 : Nat) : Int)) := (Int.natCast_emod q 4).symm
    clear HLW hql h4
    go_wp2_with fail
    rw [ext_take]
    refine (HL4.out _).mono ?_
    rintro e X ⟨rfl, hX⟩
    obtain rfl : w1 = X := hX.symm
    by_cases hr : q % 4 = 0
    case neg =>
      have hne : ((q : Int) % 4 != 0) = true := by rw [HEM.out]; simp; omega
      obtain rfl : T = (0, 2) := by rw [← HT.out]; unfold itE; rw [if_neg hs, if_neg (by decide), HQ.out, if_pos (.inr (.inl hr))]
      go_wp2_with fail
      go_ret2
      exact ⟨rfl, hbw1⟩
    have hne : ((q : Int) % 4 != 0) = false := by rw [HEM.out, hr]; rfl
    go_wp2_with fail
    rw [ext_take]
    refine (HL4.out _).mono ?_
    rintro e X ⟨rfl, hX⟩
    obtain rfl : w1 = X := hX.symm
    by_cases hq0 : q = 0
    case pos =>
      subst hq0
      obtain rfl : T = (0, 2) := by rw [← HT.out]; unfold itE; rw [if_neg hs, if_neg (by decide), HQ.out, if_pos (.inr (.inr rfl))]
      go_wp2_with fail
      go_ret2
      exact ⟨rfl, hbw1⟩
    have hq2 : ((q : Int) == 0) = false := by rw [beq_eq_false_iff_ne]; omega
    have hq3 : (q == 0) = false := by rw [beq_eq_false_iff_ne]; exact hq0
    have HQ0 := Lib.hid hq0
    clear hq0
    go_wp2_with fail
    have hdl : q / 4 ≤ 4294967296 := by omega
    have HDV : Hid ((q : Int) / 4 = ((q / 4 : Nat) : Int)) := (Int.natCast_ediv q 4).symm
    have hd0 : (0 : Int) ≤ (q : Int) / 4 := by rw [HDV.out]; exact Int.natCast_nonneg _
    have hd1 : (q : Int) / 4 ≤ 4294967296 := by rw [HDV.out]; exact Int.ofNat_le.2 hdl
    have hwq : IntKind.i64.wrap ((q : Int) / 4) = (q : Int) / 4 := by
      rw [HDV.out]
      generalize q / 4 = d at hdl ⊢
      rw [IntKind.wrap_i64]
      omega
    have hz2 : w.heap.size < w1.heap.size := Nat.lt_of_lt_of_le hz0 (Below.size hb1)
    refine wp_region_held (S := fun Y => Below w1.heap.size w1 Y) mixed ?_
    have hS0 : (fun Y => Below w1.heap.size w1 Y) { w1 with drawn := w1.drawn + 1 } := Below.drew (Below.refl _ _)
    rw [show Array.replicate (Array.size _) false = #[false, false, false, false, false, false, false] from rfl, show Array.size (α := Oper) _ = 7 from rfl]
    refine wpAnyH_take (i := 0) (v := .string ⟨s.toArray⟩) rfl (by kernel_rfl) (by kernel_rfl) (by kernel_rfl) (fun _ _ _ h => h) (Or.inl ⟨by rfl, ?_⟩) hS0 ?_
    · intro Y hY
      skip
      go_simp
    simp only [Act.put, List.getElem_toArray, List.getElem_cons_zero, List.setIfInBounds_toArray, List.set_cons_zero, List.set_cons_succ]
    refine wpAnyH_take (i := 1) (v := .string ⟨(s.take 4).toArray⟩) rfl (by kernel_rfl) (by kernel_rfl) (by kernel_rfl) (fun _ _ _ h => h) (Or.inl ⟨by rfl, ?_⟩) hS0 ?_
    · intro Y hY
      skip
      go_simp
      try rw [ext_take]
    simp only [Act.put, List.getElem_toArray, List.getElem_cons_succ, List.getElem_cons_zero, List.setIfInBounds_toArray, List.set_cons_zero, List.set_cons_succ]
    refine wpAnyH_take (i := 4) (v := .pointer (some ⟨w.heap.size, 1, none⟩)) rfl (by kernel_rfl) (by kernel_rfl) (by kernel_rfl) (fun _ _ _ h => h) (Or.inl ⟨by rfl, ?_⟩) hS0 ?_
    · intro Y hY
      skip
      go_simp
    simp only [Act.put, List.getElem_toArray, List.getElem_cons_succ, List.getElem_cons_zero, List.setIfInBounds_toArray, List.set_cons_zero, List.set_cons_succ]
    refine wpAnyH_take (i := 5) (v := .int .i64 n) rfl (by kernel_rfl) (by kernel_rfl) (by kernel_rfl) (fun _ _ _ h => h) (Or.inl ⟨by rfl, ?_⟩) hS0 ?_
    · intro Y hY
      have e1 := (hY.cell (p := ⟨w.heap.size, 1, none⟩) hz2).trans u1
      go_simp
    simp only [Act.put, List.getElem_toArray, List.getElem_cons_succ, List.getElem_cons_zero, List.setIfInBounds_toArray, List.set_cons_zero, List.set_cons_succ]
    refine wpAnyH_ready (rs := [2]) (by kernel_rfl) (by simp) ?_
    refine AllReadyH.cons rfl (fun K hK => ?_) AllReadyH.nil
    go_simp
    refine (HL4.out _).mono ?_
    rintro e X ⟨rfl, rfl⟩
    try go_wp2_with fail
    refine hK.out _ _ hS0 (fun _ => ?_)
    clear hK K
    have hSX : Below w1.heap.size w1 w1.drew := hS0
    simp only [List.setIfInBounds_toArray, List.set_cons_zero, List.set_cons_succ]
    refine wpAnyH_take (i := 3) (v := .int .i64 ((q : Int) / 4)) rfl (by kernel_rfl) (by kernel_rfl) (by kernel_rfl) (fun _ _ _ h => h) (Or.inl ⟨by rfl, ?_⟩) hSX ?_
    · intro Y hY
      skip
      go_simp
      try exact hwq
    simp only [Act.put, List.getElem_toArray, List.getElem_cons_succ, List.getElem_cons_zero, List.setIfInBounds_toArray, List.set_cons_zero, List.set_cons_succ]
    refine wpAnyH_take (i := 6) (v := .bool (decide (n < (q : Int) / 4))) rfl (by kernel_rfl) (by kernel_rfl) (by kernel_rfl) (fun _ _ _ h => h) (Or.inl ⟨by rfl, ?_⟩) hSX ?_
    · intro Y hY
      skip
      go_simp
    simp only [Act.put, List.getElem_toArray, List.getElem_cons_succ, List.getElem_cons_zero, List.setIfInBounds_toArray, List.set_cons_zero, List.set_cons_succ]
    refine wpAnyH_done (by kernel_rfl) ?_ _
    have hbw3 : Below w.heap.size w w1.drew := hbw1.trans (Below.mono hSX hbw1.size)
    by_cases hn : n < (q : Int) / 4
    · obtain rfl : T = (0, 5) := by rw [← HT.out]; unfold itE; rw [if_neg hs, if_neg (by decide), HQ.out, if_neg (by have := HQ0.out; omega), if_pos (by rw [← HDV.out]; exact hn)]
      have hnn : decide (n < (q : Int) / 4) = true := decide_eq_true hn
      rw [hnn]
      clear hnn
      go_wp2_with fail
      go_ret2
      exact ⟨rfl, hbw3⟩
    · obtain rfl : T = (q / 4, 0) := by rw [← HT.out]; unfold itE; rw [if_neg hs, if_neg (by decide), HQ.out, if_neg (by have := HQ0.out; omega), if_neg (by rw [← HDV.out]; exact hn)]
      have hnn : decide (n < (q : Int) / 4) = false := decide_eq_false hn
      rw [hnn]
      clear hnn
      go_wp2_with fail
      rw [ext_take]
      refine (HL4.out _).mono ?_
      rintro e Z ⟨rfl, hZ⟩
      obtain rfl : w1.drew = Z := hZ.symm
      go_wp2_with fail
      go_ret2
      refine ⟨?_, hbw3⟩
      show Ending.returned (.tuple #[.int .i64 ((q : Int) / 4), .int .i64 0]) = .returned (.tuple #[.int .i64 ((q / 4 : Nat) : Int), .int .i64 0])
      rw [HDV.out]
end Go.Proofs.YtgloapcfmlijlaaGreatDoor
namespace Go.Proofs.YtgloapcfmlijlaaGreatDoor
open Go Go.RowKit

namespace M
theorem chain_app (len : Nat) : ∀ (a b : List Nat) (last : Nat), chainT last len (a ++ b) = (chainT last len a && chainT (a.getLastD last) len b)
  | [], b, last => by simp [chainT]
  | x :: a, b, last => by
    rw [List.cons_append, chainT, chainT, chain_app len a b x]
    have : (x :: a).getLastD last = a.getLastD x := by cases a <;> simp [List.getLastD]
    rw [this]
    simp only [Bool.and_assoc]
/-- What holds of the offsets that have been read. -/
def okPre (head len : Nat) (out : List Nat) : Prop := (out = [] ∨ hd out len = head) ∧ chainT head len out = true
theorem okPre_snoc {head len n : Nat} {out : List Nat} (h : okPre head len out) (h1 : out = [] → n = head) (h2 : out.getLastD head ≤ n) (h3 : n ≤ len) : okPre head len (out ++ [n]) := by
  refine ⟨.inr ?_, ?_⟩
  · rcases h.1 with e | e
    · rw [e]; exact h1 e
    · cases out with
      | nil => exact h1 rfl
      | cons x out => exact e
  · rw [chain_app, h.2, Bool.true_and]
    rw [chainT, chainT, decide_eq_true h2, decide_eq_true h3]
    rfl
theorem getLastD_snoc (l : List Nat) (n d : Nat) : (l ++ [n]).getLastD d = n := by simp [List.getLastD_eq_getLast?]
theorem offs_split {s : List UInt8} {ks : List (Option Nat)} {d : Nat} (h : ks[d]? = some none) : ∃ r, offsT s 0 ks = offsT s 0 (ks.take d) ++ (led ((s.drop (hdLen (ks.take d))).take 4) :: r) := by
  have e : ks = ks.take d ++ none :: ks.drop (d + 1) := by
    have hd := (List.getElem?_eq_some_iff.1 h)
    have := List.take_append_drop d ks
    rw [List.drop_eq_getElem_cons hd.1, hd.2] at this
    exact this.symm
  refine ⟨offsT s (0 + hdLen (ks.take d) + 4) (ks.drop (d + 1)), ?_⟩
  conv => lhs; rw [e]
  rw [offsT_app, offsT, Nat.zero_add]
/-- A bad offset makes the row none. -/
theorem row_bad {s : List UInt8} {ks : List (Option Nat)} {d : Nat} (h : ks[d]? = some none) (hb : (offsT s 0 (ks.take d) = [] ∧ led ((s.drop (hdLen (ks.take d))).take 4) ≠ hdLen ks) ∨ led ((s.drop (hdLen (ks.take d))).take 4) < (offsT s 0 (ks.take d)).getLastD (hdLen ks) ∨ s.length < led ((s.drop (hdLen (ks.take d))).take 4)) : okRow ks s = false := by
  obtain ⟨r, hr⟩ := offs_split (s := s) h
  generalize led ((s.drop (hdLen (ks.take d))).take 4) = n at *
  generalize offsT s 0 (ks.take d) = out at *
  unfold okRow
  rw [hr]
  rcases hb with ⟨rfl, hne⟩ | hb
  · have : hd ([] ++ n :: r) s.length = n := rfl
    rw [this, decide_eq_false hne]
    simp
  · have : chainT (hdLen ks) s.length (out ++ n :: r) = false := by
      rw [chain_app, chainT]
      rcases hb with hb | hb
      · rw [decide_eq_false (show ¬ _ ≤ n by omega)]; simp
      · rw [decide_eq_false (show ¬ n ≤ s.length by omega)]; simp
    rw [this]
    simp
theorem row_end {s : List UInt8} {ks : List (Option Nat)} (h1 : hdLen ks ≤ s.length) (h : okPre (hdLen ks) s.length (offsT s 0 ks)) : okRow ks s = (!(offsT s 0 ks).isEmpty || decide (hdLen ks = s.length)) := by
  unfold okRow
  rw [h.2, decide_eq_true h1]
  rcases h.1 with e | e
  · rw [e]
    have h0 : hd [] s.length = s.length := rfl
    have hb : ([] : List Nat).isEmpty = true := rfl
    rw [h0, hb]
    by_cases hx : s.length = hdLen ks
    · simp [hx]
    · simp [hx, Ne.symm hx]
  · rw [e]
    cases ho : offsT s 0 ks with
    | nil =>
      rw [ho] at e
      have : s.length = hdLen ks := e
      simp [this]
    | cons x r => simp
end M
theorem M.kind_of {t : M.Ty} (hc : M.chkT 1 t = 0) : M.kindOf t = if M.fixedT t = true then some (M.sizeT t) else none := by
  have hc0 := M.chkT_mono t 1 0 hc (by omega)
  have e : M.fixedT t = M.fixT t := by rw [M.fixedT, if_pos hc0]
  unfold M.kindOf
  rw [e]
  split
  · rename_i hf
    rw [M.sizeT, e, if_pos hf]
  · rfl

set_option maxRecDepth 100000 in
set_option maxHeartbeats 8000000 in
theorem zoffsets_any (k n : Int) (ts : List M.Ty) (at_ : Option Addr) (ct : Nat) (s : List UInt8) (many : Nat) (w : World) (hT : LayT w w.heap.size ts (.slice at_ ts.length ct)) (hc : M.chkT 0 (.mk k n ts) = 0) (hm : many ≤ 1000) (hp : ∀ i, i < many → M.place k ts.length 0 i) (hs : s.length ≤ 8000)
    (ks : List (Option Nat)) (hks : Hid (M.kds k ts 0 many = ks)) :
    Calls Tryz.prog 160 #[tv k n (.slice at_ ts.length ct), .string ⟨s.toArray⟩, .int .i64 (many : Nat)] w fun e w' =>
      ((M.okRow ks s = true ∧ ∃ v, e = .returned (.tuple #[v, .bool true]) ∧ OwI w.heap.size (M.offsT s 0 ks ++ [s.length]) v w') ∨ (M.okRow ks s = false ∧ e = .returned (.tuple #[.slice none 0 0, .bool false]))) ∧ Below w.heap.size w w' := by
  obtain ⟨i0, hi, hiz, his, hib⟩ := info_parts Tryz.ofInt
  obtain ⟨w0, hw0⟩ : ∃ w0, w.alloc (.cells #[.int .i64 k, .int .i64 n, .slice at_ ts.length ct] 24) = w0 := ⟨_, rfl⟩
  have hb0 : Below w.heap.size w w0 := by rw [← hw0]; exact (Below.refl _ _).alloc (Nat.le_refl _) _
  have hz0 : w0.heap.size = w.heap.size + 1 := by rw [← hw0]; simp
  have hB0 : BoxT w0 w.heap.size k n (.slice at_ ts.length ct) := by rw [← hw0]; exact BoxT.new _ _ _ _ _
  have HBG := zbegin_any k n ts at_ ct 0 (.slice none 0 0) (.slice none 0 0) 0 many w0 ((hT.from_ hb0).mono hb0.size) hc hm hp
  rw [vv8_0, hks.out] at HBG
  have HBG := Lib.hid HBG
  have hkl : Hid (ks.length = many) := by show _ = _; rw [← hks.out]; unfold M.kds; simp
  have hki : Hid (∀ j, j < many → ks[j]? = some (M.kindOf (M.inT k ts 0 j))) := fun j hj => by rw [← hks.out]; unfold M.kds; rw [List.getElem?_map, List.getElem?_range hj]; rfl
  have t0 := hB0.c0
  have t1 := hB0.c1
  have t2 := hB0.c2
  have HW := Lib.hid hw0
  rw [← HW.out] at t0 t1 t2
  clear hw0
  obtain ⟨head, hhead⟩ : ∃ head, M.hdLen ks = head := ⟨_, rfl⟩
  rw [hhead] at HBG
  have HH := Lib.hid hhead
  clear hhead
  go_enter Tryz.func160, Tryz.ntmps160
  go_wp2_with fail
  rw [HW.out]
  refine HBG.out.mono ?_
  rintro e w1 ⟨rfl, hb1⟩
  have hbw1 := hb0.trans (Below.mono hb1 hb0.size)
  rw [HW.out] at t0 t1 t2
  by_cases hle : head ≤ s.length
  case neg =>
    have hle' : (s.length : Int) < head := by omega
    have hno : M.okRow ks s = false := by unfold M.okRow; rw [decide_eq_false (by rw [HH.out]; exact hle)]; simp
    go_wp2_with fail
    go_ret2
    exact ⟨.inr ⟨hno, rfl⟩, hbw1⟩
  have hle' : ¬ (s.length : Int) < head := by omega
  clear t0 t1 t2
  go_wp2_with fail
  simp only [show decide (s.length < head) = false from decide_eq_false (by omega)]
  go_loopw [8, 10, 11, 12] (fun o a l i wr => ∃ j : Nat, j ≤ many ∧ i = .int .i64 (j : Nat) ∧ a = .int .i64 (M.hdLen (ks.take j) : Nat) ∧ OwI w0.heap.size (M.offsT s 0 (ks.take j)) o wr ∧ l = .int .i64 ((M.offsT s 0 (ks.take j)).getLastD head : Nat) ∧ M.okPre head s.length (M.offsT s 0 (ks.take j)) ∧ Below w0.heap.size w0 wr)
    (fun _ _ _ i _ => many - (RowKit.intOf i).toNat)
  case atStart => exact ⟨0, by omega, rfl, rfl, OwI.nil _ _, rfl, ⟨.inl rfl, rfl⟩, hb1⟩
  case round =>
    obtain ⟨j, hj, rfl, rfl, hown, rfl, hpre, LW⟩ := hrel
    have hsz := LW.size
    have hbW : Below w.heap.size w wr := hb0.trans (LW.mono hb0.size)
    obtain ⟨oa, oc, rfl⟩ := hown.len
    by_cases hlt : j < many
    · obtain ⟨k', m', ts', at', ct', hin, hc1, _, hT', HI⟩ := zin_at ((hT.from_ hbW).mono hbW.size) hc (hp j hlt)
      have HI := fun W h => HI W h 0 (.slice none 0 0) (.slice none 0 0)
      simp only [vv8_0] at HI
      have HI := Lib.hid HI
      have hkj := hki.out j hlt
      rw [hin, M.kind_of hc1] at hkj
      have H1 := Lib.hid (M.hd_one hc1)
      have HFX := Lib.hid (fun W (h : Below wr.heap.size wr W) => tfixed_any k' m' ts' at' ct' W ((hT'.from_ h).mono h.size))
      have HSZ := Lib.hid (fun W (h : Below wr.heap.size wr W) => tsize_any k' m' ts' at' ct' W ((hT'.from_ h).mono h.size))
      have hhd : M.hdLen (ks.take j) + M.hdLen [M.kindOf (.mk k' m' ts')] ≤ head := by
        have := M.hd_snoc (hki.out j hlt)
        rw [hin] at this
        rw [M.hdLen_one, ← this, ← HH.out]
        exact M.hd_take ks (j + 1)
      rw [M.hd_fix hc1] at hhd
      generalize M.fixedT (.mk k' m' ts') = fx at *
      generalize M.sizeT (.mk k' m' ts') = sz at *
      clear hin hc1 hT' H1
      have hB1 := hB0.from_ LW (by omega)
      have t0 := hB1.c0
      have t1 := hB1.c1
      have t2 := hB1.c2
      have HKJ := Lib.hid hkj
      have HHD := Lib.hid hhd
      have HOW := Lib.hid hown
      have HPR := Lib.hid hpre
      clear hkj hhd hown hpre
      generalize hq : M.hdLen (ks.take j) = q
      generalize ho : M.offsT s 0 (ks.take j) = out
      rw [ho] at HOW HPR
      generalize hla : out.getLastD head = last
      have HQ := Lib.hid hq
      have HO := Lib.hid ho
      have HLA := Lib.hid hla
      clear hq ho hla
      go_wp2_with fail
      refine (HI.out wr (Below.refl _ _)).mono ?_
      rintro e w2 ⟨rfl, hb2⟩
      clear t0 t1 t2
      obtain ⟨w3, hw3⟩ : ∃ w3, w2.alloc (.cells #[.int .i64 k', .int .i64 m', .slice at' ts'.length ct'] 24) = w3 := ⟨_, rfl⟩
      have hz3 : w3.heap.size = w2.heap.size + 1 := by rw [← hw3]; simp
      have hb3 : Below w2.heap.size w2 w3 := by rw [← hw3]; exact (Below.refl _ _).alloc (Nat.le_refl _) _
      have hB3 : BoxT w3 w2.heap.size k' m' (.slice at' ts'.length ct') := by rw [← hw3]; exact BoxT.new _ _ _ _ _
      have hbr3 : Below wr.heap.size wr w3 := Below.trans hb2 (hb3.mono hb2.size)
      have HW3 := Lib.hid hw3
      clear hw3
      go_wp2_with fail
      rw [HW3.out]
      refine (HFX.out _ hbr3).mono ?_
      rintro e w4 ⟨rfl, hb4⟩
      have hbr4 : Below wr.heap.size wr w4 := hbr3.trans (Below.mono hb4 hbr3.size)
      cases fx with
      | true =>
        have hB4 := hB3.from_ hb4 (by omega)
        have t0 := hB4.c0
        have t1 := hB4.c1
        have t2 := hB4.c2
        have hhd := HHD.out
        rw [if_pos rfl, HQ.out] at hhd
        go_wp2_with fail
        refine (HSZ.out _ hbr4).mono ?_
        rintro e w5 ⟨rfl, hb5⟩
        clear t0 t1 t2
        have hbr5 := hbr4.trans (Below.mono hb5 hbr4.size)
        have hs5 := hbr5.size
        go_wp2_with fail
        have hkj := HKJ.out
        simp only [↓reduceIte] at hkj
        have e1 := M.hd_snoc hkj
        have e2 := M.offs_fix (s := s) hkj
        rw [HQ.out] at e1
        rw [HO.out] at e2
        refine ⟨⟨j + 1, by omega, by simp, by rw [e1]; simp, ?_, by rw [e2, HLA.out], by rw [e2]; exact HPR.out, LW.trans (hbr5.mono LW.size)⟩, by simp [intOf]; omega⟩
        rw [e2]
        exact HOW.out.from_ hbr5
      | false =>
        have hkj := HKJ.out
        simp only [Bool.false_eq_true, ↓reduceIte] at hkj
        have hhd := HHD.out
        simp only [Bool.false_eq_true, ↓reduceIte, HQ.out] at hhd
        have HKJ := Lib.hid hkj
        clear hkj HHD
        obtain ⟨q4, hq4⟩ : ∃ q4, q + 4 = q4 := ⟨_, rfl⟩
        have hq4i : (q : Int) + 4 = (q4 : Int) := by omega
        obtain ⟨part, hpart⟩ : ∃ part, (s.drop q).take 4 = part := ⟨_, rfl⟩
        have hp4 : part.length = 4 := by rw [← hpart, List.length_take, List.length_drop]; omega
        have hsl : ∀ Y : World, (Instr.slice 9 (.string ⟨s.toArray⟩) (some (.int .i64 (q : Nat))) (some (.int .i64 (q4 : Nat))) none).run Tryz.prog Y = .ok (.string ⟨part.toArray⟩) Y := fun Y => by
          rw [slice_str s q q4 (by omega) (by omega) Y, cutS, ← hpart, ← hq4, List.drop_take, Nat.add_sub_cancel_left]
        have HLO := Lib.hid (zlow4_any part w4 hp4)
        have HPA := Lib.hid hpart
        have HQ4 := Lib.hid hq4
        clear hpart hq4
        go_wp2_with fail
        refine HLO.out.mono ?_
        rintro e w5 ⟨rfl, rfl⟩
        generalize hn : M.led part = n'
        have HN := Lib.hid hn
        have HBAD : Hid ((out = [] ∧ n' ≠ head) ∨ n' < out.getLastD head ∨ s.length < n' → M.okRow ks s = false) := by
          intro hb
          refine M.row_bad HKJ.out ?_
          rw [HO.out, HQ.out, HPA.out, HN.out, HH.out]
          exact hb
        clear hn hsl
        rw [HLA.out] at HBAD
        have hoe : out = [] ↔ out.length = 0 := by simp
        have HOE := Lib.hid hoe
        clear hoe
        have hex : M.okRow ks s = true → ¬ ((out = [] ∧ n' ≠ head) ∨ n' < last ∨ s.length < n') := by
          intro h hb
          rw [HBAD.out hb] at h
          cases h
        by_cases hbad : (out.length = 0 ∧ n' ≠ head) ∨ n' < last ∨ s.length < n'
        · have hno : M.okRow ks s = false := by
            refine HBAD.out ?_
            rw [HOE.out]
            exact hbad
          have hbr5 : Below w.heap.size w w5 := hbW.trans (hbr4.mono hbW.size)
          have HNO := Lib.hid hno
          clear hno hex
          have c0 : ((out.length : Int) = 0) ↔ out.length = 0 := by omega
          by_cases h0 : out.length = 0 <;> by_cases h1 : n' = head <;> by_cases h2 : n' < last <;> by_cases h3 : s.length < n'
          all_goals first
            | (exfalso; omega)
            | (go_wp2_with fail; go_ret2; exact ⟨.inr ⟨HNO.out, rfl⟩, hbr5⟩)
        · have hg1 : out.length = 0 → n' = head := by omega
          have hg2 : last ≤ n' := by omega
          have hg3 : n' ≤ s.length := by omega
          have hg4 : (last : Int) ≤ n' := by omega
          have hg5 : (n' : Int) ≤ s.length := by omega
          have hs4 := hbr4.size
          have hown4 : w5.ownsRow w0.heap.size 3 1 (.slice oa out.length oc) out.length (ic out) := HOW.out.from_ hbr4
          have hkj := HKJ.out
          have e1 := Lib.hid (M.hd_snoc hkj)
          have e2 := Lib.hid (M.offs_off (s := s) hkj)
          have HPR2 := Lib.hid (M.okPre_snoc (n := n') HPR.out (by rw [HOE.out]; exact hg1) (by rw [HLA.out]; exact hg2) hg3)
          have holen : out.length ≤ 1000 := by
            have h1 := M.offs_length s (ks.take j) 0
            rw [HO.out] at h1
            have h2 := List.count_le_length (a := none) (l := ks.take j)
            rw [List.length_take, hkl.out] at h2
            omega
          clear hkj hbad hex HBAD
          by_cases h0 : out.length = 0
          · have hn1 := hg1 h0
            subst hn1
            obtain rfl := HOE.out.2 h0
            have hown4 : w5.ownsRow w0.heap.size 3 1 (.slice oa 0 oc) 0 [] := hown4
            go_wp2_with (at_builtin; refine wpList_append_own _ rfl _ _ 137 rfl w0.heap.size 3 i0 (.int .i64 0) 1 8 Tryz.underlying137 hi hiz his hib rfl (by decide) _ _ _ rfl (hown4.alloc _) ⟨w5.heap.size, 0, none⟩ 1 1 [.int .i64 (n' : Nat)] rfl rfl (cell_one_new _ _ _) (by simp [Value.oneCell']) (by unfold maxLen; omega) (by omega) (by simp; omega) ?_; intro v' w6 hown' hgrow _)
            have hbel : Below w0.heap.size w5 w6 := ((Below.refl _ w5).alloc (by omega) _).grown hgrow (by simp; omega) (fun q e => (hown4.lt q e).1)
            have hown6 : OwI w0.heap.size ([] ++ [n']) v' w6 := by
              unfold OwI
              rw [ic_append, List.length_append]
              exact hown'
            refine ⟨⟨j + 1, by omega, by simp, ?_, ?_, ?_, ?_, (LW.trans (hbr4.mono LW.size)).trans hbel⟩, by simp [intOf]; omega⟩
            · rw [e1.out, HQ.out]
              exact congrArg (Value.int .i64) (by have := HQ4.out; simp; omega)
            · rw [e2.out, HO.out, HQ.out, HPA.out, HN.out]
              exact hown6
            · rw [e2.out, HO.out, HQ.out, HPA.out, HN.out, M.getLastD_snoc]
            · rw [e2.out, HO.out, HQ.out, HPA.out, HN.out]
              exact HPR2.out
          · go_wp2_with (at_builtin; refine wpList_append_own _ rfl _ _ 137 rfl w0.heap.size 3 i0 (.int .i64 0) 1 8 Tryz.underlying137 hi hiz his hib rfl (by decide) _ _ _ rfl (hown4.alloc _) ⟨w5.heap.size, 0, none⟩ 1 1 [.int .i64 (n' : Nat)] rfl rfl (cell_one_new _ _ _) (by simp [Value.oneCell']) (by unfold maxLen; omega) (by omega) (by simp; omega) ?_; intro v' w6 hown' hgrow _)
            have hbel : Below w0.heap.size w5 w6 := ((Below.refl _ w5).alloc (by omega) _).grown hgrow (by simp; omega) (fun q e => (hown4.lt q e).1)
            have hown6 : OwI w0.heap.size (out ++ [n']) v' w6 := by
              unfold OwI
              rw [ic_append, List.length_append]
              exact hown'
            refine ⟨⟨j + 1, by omega, by simp, ?_, ?_, ?_, ?_, (LW.trans (hbr4.mono LW.size)).trans hbel⟩, by simp [intOf]; omega⟩
            · rw [e1.out, HQ.out]
              exact congrArg (Value.int .i64) (by have := HQ4.out; simp; omega)
            · rw [e2.out, HO.out, HQ.out, HPA.out, HN.out]
              exact hown6
            · rw [e2.out, HO.out, HQ.out, HPA.out, HN.out, M.getLastD_snoc]
            · rw [e2.out, HO.out, HQ.out, HPA.out, HN.out]
              exact HPR2.out
    · obtain rfl : j = many := by omega
      have hks2 : ks.take j = ks := List.take_of_length_le (by rw [hkl.out]; omega)
      rw [hks2] at hown hpre
      rw [hks2]
      have HEND := Lib.hid (M.row_end (s := s) (ks := ks) (by rw [HH.out]; exact hle) (by rw [HH.out]; exact hpre))
      generalize ho : M.offsT s 0 ks = out
      rw [ho] at hown hpre HEND
      rw [HH.out] at HEND ⊢
      have hoe : out = [] ↔ out.length = 0 := by simp
      have HOE := Lib.hid hoe
      have HO := Lib.hid ho
      have holen : out.length ≤ 1000 := by
        have h1 := M.offs_length s ks 0
        have h2 := List.count_le_length (a := none) (l := ks)
        rw [ho] at h1
        rw [hkl.out] at h2
        omega
      clear hpre hoe ho
      generalize hla : out.getLastD head = last
      clear hla
      have hown4 : wr.ownsRow w0.heap.size 3 1 (.slice oa out.length oc) out.length (ic out) := hown
      clear hown
      by_cases h0 : out.length = 0
      · obtain rfl := HOE.out.2 h0
        have hown4 : wr.ownsRow w0.heap.size 3 1 (.slice oa 0 oc) 0 [] := hown4
        by_cases h1 : head = s.length
        · have hyes : Hid (M.okRow ks s = true) := by
            show _ = _
            rw [HEND.out, decide_eq_true h1]
            rfl
          have h1' : (head : Int) = s.length := by omega
          clear h0
          subst h1
          go_wp2_with (at_builtin; refine wpList_append_own _ rfl _ _ 137 rfl w0.heap.size 3 i0 (.int .i64 0) 1 8 Tryz.underlying137 hi hiz his hib rfl (by decide) _ _ _ rfl (hown4.alloc _) ⟨wr.heap.size, 0, none⟩ 1 1 [.int .i64 (s.length : Nat)] rfl rfl (cell_one_new _ _ _) (by simp [Value.oneCell']) (by unfold maxLen; omega) (by omega) (by simp; omega) ?_; intro v' w2 hown' hgrow _)
          have hbel : Below w0.heap.size wr w2 := ((Below.refl _ wr).alloc (by omega) _).grown hgrow (by simp; omega) (fun q e => (hown4.lt q e).1)
          have hown6 : OwI w.heap.size (([] : List Nat) ++ [s.length]) v' w2 := by
            refine OwI.mono (A := w.heap.size) (B := w0.heap.size) ?_ hb0.size
            unfold OwI
            rw [ic_append, List.length_append]
            exact hown'
          clear hown'
          go_wp2_with fail
          go_ret2
          exact ⟨.inl ⟨hyes.out, v', rfl, by rw [HO.out]; exact hown6⟩, hb0.trans ((LW.trans hbel).mono hb0.size)⟩
        · have hno : Hid (M.okRow ks s = false) := by
            show _ = _
            rw [HEND.out, decide_eq_false h1]
            rfl
          have h1' : ¬ (head : Int) = s.length := by omega
          go_wp2_with fail
          go_ret2
          exact ⟨.inr ⟨hno.out, rfl⟩, hbW⟩
      · have hyes : Hid (M.okRow ks s = true) := by
          show _ = _
          rw [HEND.out]
          cases out with
          | nil => exact absurd rfl h0
          | cons x r => rfl
        go_wp2_with (at_builtin; refine wpList_append_own _ rfl _ _ 137 rfl w0.heap.size 3 i0 (.int .i64 0) 1 8 Tryz.underlying137 hi hiz his hib rfl (by decide) _ _ _ rfl (hown4.alloc _) ⟨wr.heap.size, 0, none⟩ 1 1 [.int .i64 (s.length : Nat)] rfl rfl (cell_one_new _ _ _) (by simp [Value.oneCell']) (by unfold maxLen; omega) (by omega) (by simp; omega) ?_; intro v' w2 hown' hgrow _)
        have hbel : Below w0.heap.size wr w2 := ((Below.refl _ wr).alloc (by omega) _).grown hgrow (by simp; omega) (fun q e => (hown4.lt q e).1)
        have hown6 : OwI w.heap.size (out ++ [s.length]) v' w2 := by
          refine OwI.mono (A := w.heap.size) (B := w0.heap.size) ?_ hb0.size
          unfold OwI
          rw [ic_append, List.length_append]
          exact hown'
        clear hown'
        go_wp2_with fail
        go_ret2
        exact ⟨.inl ⟨hyes.out, v', rfl, by rw [HO.out]; exact hown6⟩, hb0.trans ((LW.trans hbel).mono hb0.size)⟩
end Go.Proofs.YtgloapcfmlijlaaGreatDoor
namespace Go.Proofs.YtgloapcfmlijlaaGreatDoor
open Go Go.RowKit

namespace M
theorem chain_at {len : Nat} : ∀ {os : List Nat} {last : Nat}, chainT last len os = true → ∀ (i a b : Nat), (os ++ [len])[i]? = some a → (os ++ [len])[i + 1]? = some b → a ≤ b ∧ b ≤ len
  | [], _, _, i, a, b, _, hb => by simp at hb
  | [o], last, h, i, a, b, ha, hb => by
    simp only [chainT, Bool.and_eq_true, decide_eq_true_eq] at h
    cases i with
    | zero =>
      simp at ha hb
      omega
    | succ i => simp at hb
  | o :: o2 :: os, last, h, i, a, b, ha, hb => by
    rw [chainT, Bool.and_eq_true, Bool.and_eq_true, decide_eq_true_eq, decide_eq_true_eq] at h
    have h2 := h.2
    cases i with
    | zero =>
      rw [chainT, Bool.and_eq_true, Bool.and_eq_true, decide_eq_true_eq, decide_eq_true_eq] at h2
      simp at ha hb
      omega
    | succ i => exact chain_at h2 i a b (by simpa using ha) (by simpa using hb)
theorem part_fix {s : List UInt8} {ks : List (Option Nat)} {i z : Nat} (h : ks[i]? = some (some z)) : (partsT s 0 ks (offsT s 0 ks))[i]? = some ((s.drop (hdLen (ks.take i))).take z) := by
  have := parts_get s ks 0 (offsT s 0 ks) i (some z) (offs_length s ks 0) h
  simpa using this
/-- One that stands apart. -/
theorem part_off {s : List UInt8} {ks : List (Option Nat)} {i : Nat} (hok : okRow ks s = true) (h : ks[i]? = some none) :
    ∃ a b, (offsT s 0 ks ++ [s.length])[(ks.take i).count none]? = some a ∧ (offsT s 0 ks ++ [s.length])[(ks.take i).count none + 1]? = some b ∧ a ≤ b ∧ b ≤ s.length ∧ (partsT s 0 ks (offsT s 0 ks))[i]? = some ((s.drop a).take (b - a)) := by
  have hp := parts_get s ks 0 (offsT s 0 ks) i none (offs_length s ks 0) h
  have hil := (List.getElem?_eq_some_iff.1 h).1
  have hc := count_lt h hil
  rw [List.take_length] at hc
  have hl := offs_length s ks 0
  have h1 : (offsT s 0 ks ++ [s.length])[(ks.take i).count none]? = some ((offsT s 0 ks ++ [s.length]).getD ((ks.take i).count none) 0) := by
    rw [List.getD_eq_getElem?_getD, List.getElem?_eq_getElem (by simp; omega)]
    rfl
  have h2 : (offsT s 0 ks ++ [s.length])[(ks.take i).count none + 1]? = some ((offsT s 0 ks ++ [s.length]).getD ((ks.take i).count none + 1) 0) := by
    rw [List.getD_eq_getElem?_getD, List.getElem?_eq_getElem (by simp; omega)]
    rfl
  unfold okRow at hok
  rw [Bool.and_eq_true] at hok
  obtain ⟨h3, h4⟩ := chain_at hok.2 _ _ _ h1 h2
  exact ⟨_, _, h1, h2, h3, h4, hp⟩
theorem rds_at {ts : List Ty} {m i : Nat} (h : i < m) : (rdsT ts m)[i]? = some (getV (tyAt ts i)) := by
  unfold rdsT
  rw [List.getElem?_map, List.getElem?_range h]
  rfl
theorem kds_length (ts : List Ty) (m : Nat) : (kdsT ts m).length = m := by unfold kdsT; simp
theorem rowG_no {ts : List Ty} {m : Nat} {s : List UInt8} (h : okRow (kdsT ts m) s = false) : rowG ts m s = (noV, 2) := by
  unfold rowG splitB
  rw [h]
  rfl
theorem rowG_yes {ts : List Ty} {m : Nat} {s : List UInt8} (h : okRow (kdsT ts m) s = true) : rowG ts m s = if (readAll (rdsT ts m) (partsT s 0 (kdsT ts m) (offsT s 0 (kdsT ts m)))).2 ≠ 0 then (noV, (readAll (rdsT ts m) (partsT s 0 (kdsT ts m) (offsT s 0 (kdsT ts m)))).2) else (.mk 0 [] (readAll (rdsT ts m) (partsT s 0 (kdsT ts m) (offsT s 0 (kdsT ts m)))).1 0, 0) := by
  unfold rowG splitB
  rw [if_pos h]
theorem rowG_err {ts : List Ty} {m d : Nat} {s b : List UInt8} (h : okRow (kdsT ts m) s = true) (hd : d < m) (hb : (partsT s 0 (kdsT ts m) (offsT s 0 (kdsT ts m)))[d]? = some b)
    (hp : ∀ (i : Nat) (c : List UInt8), i < d → (partsT s 0 (kdsT ts m) (offsT s 0 (kdsT ts m)))[i]? = some c → (getV (tyAt ts i) c).2 = 0) (hq : (getV (tyAt ts d) b).2 ≠ 0) : rowG ts m s = (noV, (getV (tyAt ts d) b).2) := by
  have := readAll_err (rdsT ts m) _ d (getV (tyAt ts d)) b (rds_at hd) hb (fun i f c hi hf hc => by
    rw [rds_at (by omega)] at hf
    cases hf
    exact hp i c hi hc) hq
  rw [rowG_yes h, this, if_pos hq]
theorem rowG_ok {ts : List Ty} {m : Nat} {s : List UInt8} {vs : List Va} (h : okRow (kdsT ts m) s = true) (hl : vs.length = m)
    (hp : ∀ (i : Nat) (c : List UInt8) (v : Va), i < m → (partsT s 0 (kdsT ts m) (offsT s 0 (kdsT ts m)))[i]? = some c → vs[i]? = some v → getV (tyAt ts i) c = (v, 0)) : rowG ts m s = (.mk 0 [] vs 0, 0) := by
  have hpl : (partsT s 0 (kdsT ts m) (offsT s 0 (kdsT ts m))).length = m := by rw [parts_length, kds_length]
  have := readAll_ok (rdsT ts m) _ vs (by rw [hpl]; unfold rdsT; simp) (by rw [hpl, hl]) (fun i f c v hf hc hv => by
    have hi : i < m := by have := (List.getElem?_eq_some_iff.1 hc).1; omega
    rw [rds_at hi] at hf
    cases hf
    exact hp i c v hi hc hv)
  rw [rowG_yes h, this, if_neg (by simp)]
/-- The type of an item, by its place. -/
theorem in_ty {k : Int} {ts : List Ty} {i : Nat} (hp : place k ts.length 0 i) (hk : k ≠ 8) (h1 : k ≠ 7 → ts.length = 1) : inT k ts 0 i = tyAt ts i := by
  unfold inT tyAt
  rcases hp with ⟨h, hi⟩ | ⟨h, _⟩ | ⟨h7, h8, h0⟩
  · rw [if_pos h, show min i (ts.length - 1) = i by omega]
  · exact absurd h hk
  · rw [if_neg h7, if_neg h8, show min i (ts.length - 1) = 0 by have := h1 h7; omega]
end M

theorem wpList_append_runz {P : Program} {ops : Array Oper} {rest : List Oper} {o : Oper} {a : Act} {w w' : World} {Q : Exit → Act → World → Prop} (hgd : o.guard = none) (s x : Operand) (ats : Array TypeId)
    (ho : o.op = .call { callee := .builtin .append, args := #[s, x], argTypes := ats }) (v u v' : Value) (hs : a.eval s = v) (hx : a.eval x = u) (hr : (Builtin.append_ ats o.type #[v, u]).run P w = .ok v' w')
    (h : wpList P ops Q rest (a.put o.dst v') w') : wpList P ops Q (o :: rest) a w := by
  refine wpList_plain hgd fun _ hK => ?_
  unfold Oper.wp execOp
  simp only [ho, resolve, invoke, builtin, Sem.run_bind, Sem.run_pure, Result.andThen_ok, List.map_toArray, List.map_cons, List.map_nil, hs, hx, hr]
  exact hK _ _ h

/-- The seven cells of a value. -/
def c7 (p : M.Va × Value × Value) : List Value := match p.1 with | .mk N _ _ q => [.int .u64 (M.pt 0 N), .int .u64 (M.pt 1 N), .int .u64 (M.pt 2 N), .int .u64 (M.pt 3 N), p.2.1, p.2.2, .int .i64 q]
theorem c7_length (p : M.Va × Value × Value) : (c7 p).length = 7 := by obtain ⟨⟨N, bs, us, q⟩, x, y⟩ := p; rfl
theorem flat7_at : ∀ (L : List (M.Va × Value × Value)) (i j : Nat) (p : M.Va × Value × Value) (u : Value), L[i]? = some p → (c7 p)[j]? = some u → (L.flatMap c7)[i * 7 + j]? = some u
  | [], i, j, p, u, h, _ => by simp at h
  | p0 :: L, 0, j, p, u, h, hu => by
    obtain rfl : p0 = p := by simpa using h
    have hj := (List.getElem?_eq_some_iff.1 hu).1
    rw [List.flatMap_cons, Nat.zero_mul, Nat.zero_add, List.getElem?_append_left hj]
    exact hu
  | p0 :: L, i + 1, j, p, u, h, hu => by
    have ih := flat7_at L i j p u (by simpa using h) hu
    rw [List.flatMap_cons, List.getElem?_append_right (by rw [c7_length]; omega), c7_length, show (i + 1) * 7 + j - 7 = i * 7 + j by omega]
    exact ih

/-- A row of values that a call owns. -/
structure VaRow (B : Nat) (w : World) (L : List (M.Va × Value × Value)) (v : Value) : Prop where
  own : w.ownsRow B 33 7 v L.length (L.flatMap c7)
  kid : ∀ p ∈ L, ∃ (N : Nat) (bs : List Bool) (us : List M.Va) (q : Int) (ab : Option Addr) (cb : Nat) (au : Option Addr) (cu lo n : Nat), p = (.mk N bs us q, .slice ab bs.length cb, .slice au us.length cu) ∧ B ≤ lo ∧ n ≤ w.heap.size ∧ (∀ g, v.ownBlock = some g → g < lo ∨ n ≤ g) ∧ VlS lo n N bs us ab cb au cu w

theorem VaRow.nil (B : Nat) (w : World) : VaRow B w [] (.slice none 0 0) := ⟨World.ownsRow_nil _ _ _ _, fun _ h => by cases h⟩
theorem VaRow.blocks {B : Nat} {w W : World} {L : List (M.Va × Value × Value)} {v : Value} (h : VaRow B w L v) (hs : w.heap.size ≤ W.heap.size) (hb : ∀ b, B ≤ b → b < w.heap.size → W.heap[b]? = w.heap[b]?) : VaRow B W L v := by
  refine ⟨⟨h.own.1, ?_⟩, fun p hp => ?_⟩
  · rcases h.own.2 with h0 | ⟨g, cap, cur, hv, hB, hg, h1⟩
    · exact .inl h0
    · exact .inr ⟨g, cap, cur, hv, hB, (hb g hB (Array.getElem?_eq_some_iff.1 hg).1).trans hg, h1⟩
  · obtain ⟨N, bs, us, q, ab, cb, au, cu, lo, n, he, h1, h2, h3, h4⟩ := h.kid p hp
    exact ⟨N, bs, us, q, ab, cb, au, cu, lo, n, he, h1, Nat.le_trans h2 hs, h3, h4.agree (Agree.blocks fun b a1 a2 => hb b (Nat.le_trans h1 a1) (Nat.lt_of_lt_of_le a2 h2))⟩
theorem VaRow.slice {B : Nat} {w : World} {L : List (M.Va × Value × Value)} {v : Value} (h : VaRow B w L v) : ∃ a cap, v = .slice a L.length cap := by
  rcases h.own.2 with ⟨h0, h1⟩ | ⟨g, cap, cur, rfl, hB, hg, h1⟩
  · exact ⟨none, 0, by rw [h0, h1]⟩
  · exact ⟨_, _, rfl⟩
theorem addr0_add (b i : Nat) : (⟨b, 0, none⟩ : Addr).add i = ⟨b, i, none⟩ := by
  unfold Addr.add
  by_cases h : i = 0
  · subst h; rfl
  · simp [h]
/-- What it leads to. -/
theorem VaRow.vls {B : Nat} {w : World} {L : List (M.Va × Value × Value)} {au : Option Addr} {cu : Nat} (h : VaRow B w L (.slice au L.length cu)) : VlS B w.heap.size 0 [] (L.map (·.1)) none 0 au cu w := by
  rcases h.own.2 with ⟨h0, h1⟩ | ⟨g, cap, cur, hv, hB, hg, hc, hm, h1⟩
  · obtain rfl := List.eq_nil_of_length_eq_zero h1
    cases h0
    exact VlS.num _ _ _ (by unfold M.In; omega) _
  · have hcell := h.own.cells (g := g) (by rw [hv]; rfl)
    cases hv
    refine VlS.row hB (Array.getElem?_eq_some_iff.1 hg).1 (by simpa using hc) hm fun i N bs vs q hi => ?_
    rw [List.getElem?_map] at hi
    cases hl : L[i]? with
    | none => rw [hl] at hi; cases hi
    | some p =>
      rw [hl] at hi
      have hp : p.1 = .mk N bs vs q := by simpa using hi
      obtain ⟨N', bs', us', q', ab, cb, au', cu', lo, n, he, a1, a2, a3, a4⟩ := h.kid p (List.mem_of_getElem? hl)
      subst he
      cases hp
      have key : ∀ j u, (c7 (.mk N bs vs q, .slice ab bs.length cb, .slice au' vs.length cu'))[j]? = some u → w.cell? ⟨g, i * 7 + j, none⟩ = some u := fun j u e => by rw [← addr0_add]; exact hcell _ _ (flat7_at L i j _ u hl e)
      refine ⟨ab, cb, au', cu', ⟨?_, ?_, ?_, ?_, ?_, ?_, ?_⟩, a4.mono a1 a2⟩
      · exact key 0 _ rfl
      · exact key 1 _ rfl
      · exact key 2 _ rfl
      · exact key 3 _ rfl
      · exact key 4 _ rfl
      · exact key 5 _ rfl
      · exact key 6 _ rfl
/-- A value goes behind it. -/
theorem va_append {B : Nat} {w : World} {L : List (M.Va × Value × Value)} {v : Value} (hL : VaRow B w L v) (hB : B ≤ w.heap.size) (hlen : L.length ≤ 100000) (ty : TypeId) (g c : Nat) (N : Nat) (bs : List Bool) (us : List M.Va) (q : Int) (ab : Option Addr) (cb : Nat) (au : Option Addr) (cu lo n : Nat)
    (hnews : ∀ j x, (c7 (.mk N bs us q, .slice ab bs.length cb, .slice au us.length cu))[j]? = some x → w.cell? ((⟨g, 0, none⟩ : Addr).add j) = some x) (hlo : B ≤ lo) (hn : n ≤ w.heap.size) (hx : ∀ g, v.ownBlock = some g → g < lo ∨ n ≤ g) (hk : VlS lo n N bs us ab cb au cu w) :
    ∃ v' w', (Builtin.append_ #[31, 31] ty #[v, .slice (some ⟨g, 0, none⟩) 1 c]).run Tryz.prog w = .ok v' w' ∧ VaRow B w' (L ++ [(.mk N bs us q, .slice ab bs.length cb, .slice au us.length cu)]) v' ∧ w.grownBy w' v.ownBlock := by
  obtain ⟨i, hi, hz0, hz1, hz2⟩ := info_parts Tryz.ofVal
  obtain ⟨v', w', hr, ho, hg, hblk⟩ := run_append_blk (P := Tryz.prog) w B 31 ty 33 i _ 7 88 Tryz.underlying31 hi hz0 hz1 hz2 rfl (by omega) v L.length _ hL.own ⟨g, 0, none⟩ 1 c (c7 (.mk N bs us q, .slice ab bs.length cb, .slice au us.length cu)) rfl hnews
    (by
      intro u hu
      simp only [c7, List.mem_cons, List.not_mem_nil, or_false] at hu
      rcases hu with rfl | rfl | rfl | rfl | rfl | rfl | rfl <;> rfl) (by simp only [maxLen]; omega) (by omega) hB
  refine ⟨v', w', hr, ⟨?_, fun p hp => ?_⟩, hg⟩
  · rw [List.length_append, List.flatMap_append]
    simpa using ho
  · have old : ∀ (N : Nat) (bs : List Bool) (us : List M.Va) (ab : Option Addr) (cb : Nat) (au : Option Addr) (cu lo n : Nat), n ≤ w.heap.size → (∀ g, v.ownBlock = some g → g < lo ∨ n ≤ g) → VlS lo n N bs us ab cb au cu w → (∀ g, v'.ownBlock = some g → g < lo ∨ n ≤ g) ∧ VlS lo n N bs us ab cb au cu w' := by
      intro N bs us ab cb au cu lo n h2 h3 h4
      refine ⟨fun b hb => ?_, h4.agree (Agree.blocks fun b a1 a2 => hg.block b (by omega) fun e => ?_)⟩
      · rcases hblk with e | e
        · exact h3 b (e.symm.trans hb)
        · exact .inr (Nat.le_trans h2 (e b hb))
      · rcases h3 b e.symm with h | h <;> omega
    rcases List.mem_append.1 hp with hp | hp
    · obtain ⟨N, bs, us, q, ab, cb, au, cu, lo, n, he, h1, h2, h3, h4⟩ := hL.kid p hp
      obtain ⟨h5, h6⟩ := old N bs us ab cb au cu lo n h2 h3 h4
      exact ⟨N, bs, us, q, ab, cb, au, cu, lo, n, he, h1, Nat.le_trans h2 hg.size, h5, h6⟩
    · obtain rfl := List.mem_singleton.1 hp
      obtain ⟨h5, h6⟩ := old N bs us ab cb au cu lo n hn hx hk
      exact ⟨N, bs, us, q, ab, cb, au, cu, lo, n, rfl, hlo, Nat.le_trans hn hg.size, h5, h6⟩
end Go.Proofs.YtgloapcfmlijlaaGreatDoor
namespace Go.Proofs.YtgloapcfmlijlaaGreatDoor
open Go Go.RowKit Go.Lib
attribute [local go_sem] Oper.semAt_some

end Go.Proofs.YtgloapcfmlijlaaGreatDoor
namespace Go.Proofs.YtgloapcfmlijlaaGreatDoor
open Go Go.RowKit

theorem Tryz.infoBool : (Tryz.prog.info? 4).map (fun i => (i.zero, i.size, i.bytes)) = some (some (.bool false), 1, 1) := by kernel_rfl
theorem LayB.cells {w : World} {n b o cap : Nat} {bs : List Bool} (h : LayB w n bs (.slice (some ⟨b, o, none⟩) bs.length cap)) : ∀ (j : Nat) (u : Value), (bs.map Value.bool)[j]? = some u → w.cell? ((⟨b, o, none⟩ : Addr).add j) = some u := by
  intro j u hj
  rw [List.getElem?_map] at hj
  cases hx : bs[j]? with
  | none => rw [hx] at hj; cases hj
  | some x =>
    rw [hx] at hj
    cases hj
    have hl := (List.getElem?_eq_some_iff.1 hx).1
    obtain ⟨b', o', x', e, _, hx', hc⟩ := h.at_ hl
    cases e
    rw [hx] at hx'
    cases hx'
    have e : (⟨b, o, none⟩ : Addr).add j = ⟨b, o + j, none⟩ := by unfold Addr.add; split <;> simp_all
    rw [e]
    exact hc

end Go.Proofs.YtgloapcfmlijlaaGreatDoor
namespace Go.Proofs.YtgloapcfmlijlaaGreatDoor
open Go Go.RowKit

set_option maxRecDepth 100000 in
set_option maxHeartbeats 4000000 in
theorem zunpack_any (s : List UInt8) (n : Nat) (w : World) (h : s.length ≤ 8000) (hn : n ≤ 8 * s.length) :
    Calls Tryz.prog 158 #[.string ⟨s.toArray⟩, .int .i64 (n : Nat)] w fun e w' => ∃ v, e = .returned v ∧ w'.ownsRow w.heap.size 4 1 v n ((M.unpackB s n).map Value.bool) ∧ Below w.heap.size w w' := by
  obtain ⟨i0, hi, hz0, hz1, hz2⟩ := info_parts Tryz.infoBool
  go_enter Tryz.func158, Tryz.ntmps158
  go_wp2_with fail
  go_loopw [5, 6] (fun v i wr => ∃ j : Nat, j ≤ n ∧ i = .int .i64 (j : Nat) ∧ wr.ownsRow w.heap.size 4 1 v j ((M.unpackB s j).map Value.bool) ∧ Below w.heap.size w wr)
    (fun _ i _ => n - (RowKit.intOf i).toNat)
  case atStart => exact ⟨0, by omega, rfl, World.ownsRow_nil _ _ _ _, Below.refl _ _⟩
  case round =>
    obtain ⟨j, hj, rfl, hown, LW⟩ := hrel
    have hsz := LW.size
    by_cases hlt : j < n
    · have hj9 : j < 64000 := by omega
      obtain ⟨d, hd⟩ : ∃ d, j / 8 = d := ⟨_, rfl⟩
      obtain ⟨r, hr⟩ : ∃ r, j % 8 = r := ⟨_, rfl⟩
      have hds : d < s.length := by omega
      have hr8 : r < 8 := by omega
      have hdi : (j : Int) / 8 = (d : Int) := by omega
      have hri : (j : Int) % 8 = (r : Int) := by omega


      obtain ⟨c, hc⟩ : ∃ c, (s[d]'hds) = c := ⟨_, rfl⟩
      have ec : ((⟨s.toArray⟩ : ByteArray)[d]'(by simpa [ByteArray.size] using hds)) = c := hc
      have hbit : M.bitAt s j = M.nb c.toNat r := by
        unfold M.bitAt
        rw [hd, hr, List.getD_eq_getElem?_getD, List.getElem?_eq_getElem hds, hc]
        rfl
      have HBIT := Lib.hid hbit
      have HHD := Lib.hid hd
      have HHR := Lib.hid hr
      clear hbit hc hd hr
      obtain ⟨b, hb⟩ : ∃ b, M.nb c.toNat r = b := ⟨_, rfl⟩
      have hv : (((c.toNat : Int) / 2 ^ r).tmod 2 == 1) = b := by
        rw [← hb]
        unfold M.nb
        have e : ((c.toNat : Int) / 2 ^ r) = ((c.toNat / 2 ^ r : Nat) : Int) := by simp
        rw [e]
        generalize c.toNat / 2 ^ r = a
        rw [Int.tmod_eq_emod_of_nonneg (Int.natCast_nonneg a), Bool.eq_iff_iff, beq_iff_eq, beq_iff_eq]
        omega
      have HB := Lib.hid hb
      clear hb
      go_wp2_with (at_builtin; (try rw [hv]); refine wpList_append_own _ rfl _ _ 30 rfl w.heap.size 4 i0 (.bool false) 1 1 Tryz.underlying30 hi hz0 hz1 hz2 rfl (by decide) _ _ _ rfl (hown.alloc _) ⟨wr.heap.size, 0, none⟩ 1 1 [.bool b] rfl rfl (cell_one_new _ _ _) (by simp [Value.oneCell']) (by unfold maxLen; omega) (by omega) (by simp; omega) ?_; intro v' w2 hown' hgrow _)
      have hown2 : w2.ownsRow w.heap.size 4 1 v' (j + 1) ((M.unpackB s (j + 1)).map Value.bool) := by
        have e : M.unpackB s (j + 1) = M.unpackB s j ++ [b] := by
          unfold M.unpackB
          rw [List.range_succ, List.map_append, List.map_singleton, HBIT.out, HB.out]
        rw [e, List.map_append]
        exact hown'
      have hbel : Below w.heap.size wr w2 := ((Below.refl _ wr).alloc (by omega) _).grown hgrow (by simp; omega) (fun q e => (hown.lt q e).1)
      clear hown hown' hgrow hv
      go_wp2_with fail
      exact ⟨⟨j + 1, by omega, by simp, hown2, LW.trans hbel⟩, by simp [RowKit.intOf]; omega⟩

    · obtain rfl : j = n := by omega
      go_wp2_with fail
      go_ret
      exact ⟨_, rfl, hown, LW⟩
end Go.Proofs.YtgloapcfmlijlaaGreatDoor
namespace Go.Proofs.YtgloapcfmlijlaaGreatDoor
open Go Go.RowKit

/-- 8 cells that may be written. -/
structure CellsW8 (w : World) (g : Nat) : Prop where
  i0 : ∃ v, w.cell? ⟨g, 0, none⟩ = some v
  i1 : ∃ v, w.cell? ⟨g, 1, none⟩ = some v
  i2 : ∃ v, w.cell? ⟨g, 2, none⟩ = some v
  i3 : ∃ v, w.cell? ⟨g, 3, none⟩ = some v
  i4 : ∃ v, w.cell? ⟨g, 4, none⟩ = some v
  i5 : ∃ v, w.cell? ⟨g, 5, none⟩ = some v
  i6 : ∃ v, w.cell? ⟨g, 6, none⟩ = some v
  i7 : ∃ v, w.cell? ⟨g, 7, none⟩ = some v
  f0 : w.frozen? ⟨g, 0, none⟩ = false
  f1 : w.frozen? ⟨g, 1, none⟩ = false
  f2 : w.frozen? ⟨g, 2, none⟩ = false
  f3 : w.frozen? ⟨g, 3, none⟩ = false
  f4 : w.frozen? ⟨g, 4, none⟩ = false
  f5 : w.frozen? ⟨g, 5, none⟩ = false
  f6 : w.frozen? ⟨g, 6, none⟩ = false
  f7 : w.frozen? ⟨g, 7, none⟩ = false
theorem cells_w8 {w : World} {g : Nat} {o0 o1 o2 o3 o4 o5 o6 o7 : Value} {t : TypeId} (h : w.heap[g]? = some (.cells #[o0, o1, o2, o3, o4, o5, o6, o7] t (0, 0))) : CellsW8 w g := by
  constructor <;> simp [World.cell?, World.frozen?, h]
set_option maxHeartbeats 4000000 in
theorem set_w8 {w : World} {g : Nat} {o0 o1 o2 o3 o4 o5 o6 o7 : Value} {t : TypeId} (h : w.heap[g]? = some (.cells #[o0, o1, o2, o3, o4, o5, o6, o7] t (0, 0))) (a0 a1 a2 a3 a4 a5 a6 a7 : Value) :
    ((((((((w.setCell ⟨g, 0, none⟩ a0).setCell ⟨g, 1, none⟩ a1).setCell ⟨g, 2, none⟩ a2).setCell ⟨g, 3, none⟩ a3).setCell ⟨g, 4, none⟩ a4).setCell ⟨g, 5, none⟩ a5).setCell ⟨g, 6, none⟩ a6).setCell ⟨g, 7, none⟩ a7) = w.setRow g #[a0, a1, a2, a3, a4, a5, a6, a7] := by
  have e0 := setCell_eq_setRow w g 0 _ t (0, 0) a0 h
  have h0 := setRow_heap w g _ ((#[o0, o1, o2, o3, o4, o5, o6, o7] : Array Value).setIfInBounds 0 a0) t (0, 0) h
  have e1 := setCell_eq_setRow _ g 1 _ t (0, 0) a1 h0
  have h1 := setRow_heap _ g _ (((#[o0, o1, o2, o3, o4, o5, o6, o7] : Array Value).setIfInBounds 0 a0).setIfInBounds 1 a1) t (0, 0) h0
  have e2 := setCell_eq_setRow _ g 2 _ t (0, 0) a2 h1
  have h2 := setRow_heap _ g _ ((((#[o0, o1, o2, o3, o4, o5, o6, o7] : Array Value).setIfInBounds 0 a0).setIfInBounds 1 a1).setIfInBounds 2 a2) t (0, 0) h1
  have e3 := setCell_eq_setRow _ g 3 _ t (0, 0) a3 h2
  have h3 := setRow_heap _ g _ (((((#[o0, o1, o2, o3, o4, o5, o6, o7] : Array Value).setIfInBounds 0 a0).setIfInBounds 1 a1).setIfInBounds 2 a2).setIfInBounds 3 a3) t (0, 0) h2
  have e4 := setCell_eq_setRow _ g 4 _ t (0, 0) a4 h3
  have h4 := setRow_heap _ g _ ((((((#[o0, o1, o2, o3, o4, o5, o6, o7] : Array Value).setIfInBounds 0 a0).setIfInBounds 1 a1).setIfInBounds 2 a2).setIfInBounds 3 a3).setIfInBounds 4 a4) t (0, 0) h3
  have e5 := setCell_eq_setRow _ g 5 _ t (0, 0) a5 h4
  have h5 := setRow_heap _ g _ (((((((#[o0, o1, o2, o3, o4, o5, o6, o7] : Array Value).setIfInBounds 0 a0).setIfInBounds 1 a1).setIfInBounds 2 a2).setIfInBounds 3 a3).setIfInBounds 4 a4).setIfInBounds 5 a5) t (0, 0) h4
  have e6 := setCell_eq_setRow _ g 6 _ t (0, 0) a6 h5
  have h6 := setRow_heap _ g _ ((((((((#[o0, o1, o2, o3, o4, o5, o6, o7] : Array Value).setIfInBounds 0 a0).setIfInBounds 1 a1).setIfInBounds 2 a2).setIfInBounds 3 a3).setIfInBounds 4 a4).setIfInBounds 5 a5).setIfInBounds 6 a6) t (0, 0) h5
  have e7 := setCell_eq_setRow _ g 7 _ t (0, 0) a7 h6
  rw [e0, e1, e2, e3, e4, e5, e6, e7, setRow_setRow, setRow_setRow, setRow_setRow, setRow_setRow, setRow_setRow, setRow_setRow, setRow_setRow]
  rfl
theorem Tryz.gotSize : (Tryz.prog.info? 59).map (·.size) = some 8 := by kernel_rfl
/-- A value and an error, as one. -/
abbrev gvv (N : Nat) (x y : Value) (p : Int) (q : Nat) : Value := .agg #[.int .u64 (M.pt 0 N), .int .u64 (M.pt 1 N), .int .u64 (M.pt 2 N), .int .u64 (M.pt 3 N), x, y, .int .i64 p, .int .i64 (q : Nat)]
theorem got_post {fn : Func} (hres : fn.results = #[.cell 4 59]) (w w1 : World) (tmps : Array Value) (N : Nat) (x y : Value) (p : Int) (q : Nat) (g : Nat) (hg : w.heap.size ≤ g) (hB : Below w.heap.size w w1) (o0 o1 o2 o3 o4 o5 o6 o7 : Value)
    (hrow : w1.heap[g]? = some (.cells #[o0, o1, o2, o3, o4, o5, o6, o7] 59 (0, 0))) (R : Ending → World → Prop) (hp : tmps.getD 4 undef = .pointer (some ⟨g, 0, none⟩))
    (h : ∀ Z, Below w.heap.size w Z → Z.heap.size = w1.heap.size → (∀ b, b ≠ g → Z.heap[b]? = w1.heap[b]?) → R (.returned (gvv N x y p q)) Z) :
    bodyPost Tryz.prog fn R .ret { tmps := tmps, defers := [] } ((((((((w1.setCell ⟨g, 0, none⟩ (.int .u64 (M.pt 0 N))).setCell ⟨g, 1, none⟩ (.int .u64 (M.pt 1 N))).setCell ⟨g, 2, none⟩ (.int .u64 (M.pt 2 N))).setCell ⟨g, 3, none⟩ (.int .u64 (M.pt 3 N))).setCell ⟨g, 4, none⟩ x).setCell ⟨g, 5, none⟩ y).setCell ⟨g, 6, none⟩ (.int .i64 p)).setCell ⟨g, 7, none⟩ (.int .i64 (q : Nat))) := by
  rw [set_w8 hrow]
  have := results_cell_row (P := Tryz.prog) hres tmps (w1.setRow g #[.int .u64 (M.pt 0 N), .int .u64 (M.pt 1 N), .int .u64 (M.pt 2 N), .int .u64 (M.pt 3 N), x, y, .int .i64 p, .int .i64 (q : Nat)]) g 59 #[.int .u64 (M.pt 0 N), .int .u64 (M.pt 1 N), .int .u64 (M.pt 2 N), .int .u64 (M.pt 3 N), x, y, .int .i64 p, .int .i64 (q : Nat)] (0, 0) _ hp (setRow_heap _ _ _ _ _ (0, 0) hrow) Tryz.underlying59 rfl Tryz.gotSize
  exact bodyPost_ret this rfl (h _ (below_setRow hB hg _) (by simp) (fun b hb => setRow_other _ _ _ _ hb))
theorem got_post0 {fn : Func} (hres : fn.results = #[.cell 4 59]) (w w1 : World) (tmps : Array Value) (x y : Value) (p : Int) (q : Nat) (g : Nat) (hg : w.heap.size ≤ g) (hB : Below w.heap.size w w1) (o0 o1 o2 o3 o4 o5 o6 o7 : Value)
    (hrow : w1.heap[g]? = some (.cells #[o0, o1, o2, o3, o4, o5, o6, o7] 59 (0, 0))) (R : Ending → World → Prop) (hp : tmps.getD 4 undef = .pointer (some ⟨g, 0, none⟩))
    (h : ∀ Z, Below w.heap.size w Z → Z.heap.size = w1.heap.size → (∀ b, b ≠ g → Z.heap[b]? = w1.heap[b]?) → R (.returned (gvv 0 x y p q)) Z) :
    bodyPost Tryz.prog fn R .ret { tmps := tmps, defers := [] } ((((((((w1.setCell ⟨g, 0, none⟩ (.int .u64 0)).setCell ⟨g, 1, none⟩ (.int .u64 0)).setCell ⟨g, 2, none⟩ (.int .u64 0)).setCell ⟨g, 3, none⟩ (.int .u64 0)).setCell ⟨g, 4, none⟩ x).setCell ⟨g, 5, none⟩ y).setCell ⟨g, 6, none⟩ (.int .i64 p)).setCell ⟨g, 7, none⟩ (.int .i64 (q : Nat))) := by
  have := got_post hres w w1 tmps 0 x y p q g hg hB o0 o1 o2 o3 o4 o5 o6 o7 hrow R hp h
  rw [show M.pt 0 0 = 0 by decide +kernel, show M.pt 1 0 = 0 by decide +kernel, show M.pt 2 0 = 0 by decide +kernel, show M.pt 3 0 = 0 by decide +kernel] at this
  exact this
/-- What the reference hands back: a value in memory of the call's own, and an error. -/
def GotR (w : World) (r : M.Va × Nat) (e : Ending) (w' : World) : Prop := (∃ (N : Nat) (bs : List Bool) (us : List M.Va) (p : Int) (ab : Option Addr) (cb : Nat) (au : Option Addr) (cu : Nat), r.1 = .mk N bs us p ∧ e = .returned (gvv N (.slice ab bs.length cb) (.slice au us.length cu) p r.2) ∧ VlS w.heap.size w'.heap.size N bs us ab cb au cu w') ∧ Below w.heap.size w w'
theorem gotR_none (w : World) (q : Nat) {Z : World} (hZ : Below w.heap.size w Z) : GotR w (M.noV, q) (.returned (gvv 0 (.slice none 0 0) (.slice none 0 0) 0 q)) Z :=
  ⟨⟨0, [], [], 0, none, 0, none, 0, rfl, rfl, .num _ _ 0 (by unfold M.In; omega) _⟩, hZ⟩
theorem bools_own {w : World} {B n : Nat} {v : Value} {l : List Bool} (h : w.ownsRow B 4 1 v n (l.map Value.bool)) (hn : 0 < n) : ∃ g cap, v = .slice (some ⟨g, 0, none⟩) n cap ∧ B ≤ g ∧ g < w.heap.size ∧ n ≤ cap ∧ cap ≤ maxLen ∧ ∀ j b, l[j]? = some b → w.cell? ⟨g, j, none⟩ = some (.bool b) := by
  rcases id h.2 with ⟨_, h0⟩ | ⟨g, cap, cur, rfl, hB, hg, hnc, hcm, hcs, htake⟩
  · omega
  · refine ⟨g, cap, rfl, hB, (Array.getElem?_eq_some_iff.1 hg).1, hnc, hcm, fun j b hj => ?_⟩
    have := World.ownsRow.cells (g := g) h rfl j (.bool b) (by simp [hj])
    unfold Addr.add at this
    by_cases hj0 : j = 0
    · subst hj0; simpa using this
    · simpa [hj0] using this

set_option maxRecDepth 100000 in
set_option maxHeartbeats 4000000 in
theorem zbits_any (k : Int) (n : Nat) (v0 : Value) (s : List UInt8) (w : World) (hs : s.length ≤ 8000) (hn : n ≤ 8 * s.length) (h1 : 1 ≤ n) :
    Calls Tryz.prog 77 #[tv k (n : Nat) v0, .string ⟨s.toArray⟩] w (GotR w (if M.spareB s (n : Nat) = true then (M.noV, 8) else (.mk 0 (M.unpackB s n) [] 0, 0))) := by
  obtain ⟨w0, hw0⟩ : ∃ w0, (w.alloc (.cells #[.int .i64 k, .int .i64 (n : Nat), v0] 24)).alloc (.cells #[.int .u64 0, .int .u64 0, .int .u64 0, .int .u64 0, .slice none 0 0, .slice none 0 0, .int .i64 0, .int .i64 0] 59) = w0 := ⟨_, rfl⟩
  have hb0 : Below w.heap.size w w0 := by rw [← hw0]; (repeat (first | exact Below.refl _ _ | refine Below.drew ?_ | refine Below.alloc ?_ (by first | omega | (simp; omega) | simp) _ | refine Below.setCell ?_ (by first | omega | (simp; omega) | simp) _))
  have hz0 : w0.heap.size = w.heap.size + 2 := by rw [← hw0]; simp
  have hr0 : w0.heap[w.heap.size + 1]? = some (.cells #[.int .u64 0, .int .u64 0, .int .u64 0, .int .u64 0, .slice none 0 0, .slice none 0 0, .int .i64 0, .int .i64 0] 59 (0, 0)) := by
    rw [← hw0]
    have := World.alloc_heap_new (w.alloc (.cells #[.int .i64 k, .int .i64 (n : Nat), v0] 24)) (.cells #[.int .u64 0, .int .u64 0, .int .u64 0, .int .u64 0, .slice none 0 0, .slice none 0 0, .int .i64 0, .int .i64 0] 59)
    rwa [World.size_alloc] at this
  have hB0 : BoxT w0 w.heap.size k (n : Nat) v0 := by rw [← hw0]; exact ⟨by simp [go_sem], by simp [go_sem], by simp [go_sem]⟩
  have HW := Lib.hid hw0
  obtain ⟨N, hN⟩ : ∃ N, 8 * s.length = N := ⟨_, rfl⟩
  have HU := Lib.hid (zunpack_any s N w0 hs (by omega))
  have hN9 : N ≤ 64000 := by omega
  rw [hN] at hn
  have hNi : (8 : Int) * s.length = N := by omega
  have hNw : IntKind.i64.wrap (8 * (s.length : Int)) = N := by rw [hNi, IntKind.wrap_i64]; omega
  have HSP : Hid (M.spareB s (n : Nat) = true ↔ ∃ j, n ≤ j ∧ j < N ∧ M.bitAt s j = true) := by
    show _ ↔ _
    unfold M.spareB
    rw [List.any_eq_true, hN]
    constructor
    · rintro ⟨j, hj, hb⟩
      simp only [Bool.and_eq_true, decide_eq_true_eq] at hb
      exact ⟨j, by omega, List.mem_range.1 hj, hb.2⟩
    · rintro ⟨j, h1, h2, h3⟩
      exact ⟨j, List.mem_range.2 h2, by simp only [h3, Bool.and_true, decide_eq_true_eq]; omega⟩
  obtain ⟨T, hT⟩ : ∃ T, (if M.spareB s (n : Nat) = true then (M.noV, 8) else ((.mk 0 (M.unpackB s n) [] 0, 0) : M.Va × Nat)) = T := ⟨_, rfl⟩
  rw [hT]
  have HT := Lib.hid hT
  clear hw0 hT hN
  go_enter Tryz.func77, Tryz.ntmps77
  go_wp2_with fail
  rw [HW.out]
  refine HU.out.mono ?_
  rintro e w1 ⟨v, rfl, hown, hb1⟩
  obtain ⟨g, cap, rfl, hgB, hgs, hgc, hgm, hcell⟩ := bools_own hown (by omega)
  have hbit : ∀ j, j < N → w1.cell? ⟨g, j, none⟩ = some (.bool (M.bitAt s j)) := fun j hj => hcell j _ (by unfold M.unpackB; rw [List.getElem?_map, List.getElem?_range hj]; rfl)
  have hbw1 := hb0.trans (Below.mono hb1 hb0.size)
  have t1 := (Below.cell hb1 (p := ⟨w.heap.size, 1, none⟩) (by show w.heap.size < _; omega)).trans hB0.c1
  have hr1 := (Below.block hb1 (w.heap.size + 1) (by omega)).trans hr0
  have HBIT := Lib.hid hbit
  have HCELL := Lib.hid hcell
  clear hown hcell hbit
  go_wp2_with fail
  go_loopw [6] (fun i wr => ∃ j : Nat, n ≤ j ∧ j ≤ N ∧ i = .int .i64 (j : Nat) ∧ (∀ t, n ≤ t → t < j → M.bitAt s t = false) ∧ wr = w1) (fun i _ => N - (RowKit.intOf i).toNat)
  case atStart => exact ⟨n, by omega, hn, rfl, fun t a b => by omega, rfl⟩
  case round =>
    obtain ⟨j, hj0, hj, rfl, hfa, rfl⟩ := hrel
    by_cases hlt : j < N
    · have hj9 : j < 64000 := by omega
      have c0 := HBIT.out j hlt
      cases hbj : M.bitAt s j with
      | true =>
        rw [hbj] at c0
        obtain ⟨⟨_, i0⟩, ⟨_, i1⟩, ⟨_, i2⟩, ⟨_, i3⟩, ⟨_, i4⟩, ⟨_, i5⟩, ⟨_, i6⟩, ⟨_, i7⟩, f0, f1, f2, f3, f4, f5, f6, f7⟩ := cells_w8 hr1
        go_wp2_with fail
        obtain rfl : T = (M.noV, 8) := by rw [← HT.out, if_pos (HSP.out.2 ⟨j, hj0, hlt, hbj⟩)]
        exact got_post0 rfl w wr _ _ _ 0 8 _ (by omega) hbw1 _ _ _ _ _ _ _ _ hr1 _ rfl fun Z hZ _ _ => gotR_none w 8 hZ
      | false =>
        rw [hbj] at c0
        go_wp2_with fail
        exact ⟨⟨j + 1, by omega, by omega, by simp, fun t a b => by
          by_cases e : t = j
          · rw [e]; exact hbj
          · exact hfa t a (by omega), trivial⟩, by simp [RowKit.intOf]; omega⟩
    · obtain rfl : j = N := by omega
      have hnc : (n : Int) ≤ cap := by omega
      obtain ⟨⟨_, i0⟩, ⟨_, i1⟩, ⟨_, i2⟩, ⟨_, i3⟩, ⟨_, i4⟩, ⟨_, i5⟩, ⟨_, i6⟩, ⟨_, i7⟩, f0, f1, f2, f3, f4, f5, f6, f7⟩ := cells_w8 hr1
      have HFA := Lib.hid hfa
      clear hfa
      go_wp2_with fail
      obtain rfl : T = (.mk 0 (M.unpackB s n) [] 0, 0) := by
        rw [← HT.out, if_neg]
        intro h
        obtain ⟨t, a, b, c⟩ := HSP.out.1 h
        rw [HFA.out t a b] at c
        cases c
      have hLB : LayB wr wr.heap.size (M.unpackB s n) (.slice (some ⟨g, 0, none⟩) n cap) := by
        have := LayB.row (w := wr) (n := wr.heap.size) (bs := M.unpackB s n) (b := g) (o := 0) (cap := cap) hgs (by rw [M.unpack_length]; omega) hgm (fun i x hx => by
          have hi := (List.getElem?_eq_some_iff.1 hx).1
          rw [M.unpack_length] at hi
          rw [Nat.zero_add, HBIT.out i (by omega)]
          unfold M.unpackB at hx
          rw [List.getElem?_map, List.getElem?_range hi] at hx
          cases hx
          rfl)
        rwa [M.unpack_length] at this
      refine got_post0 rfl w wr _ _ _ 0 0 _ (by omega) hbw1 _ _ _ _ _ _ _ _ hr1 _ rfl fun Z hZ hz hk => ⟨⟨0, M.unpackB s n, [], 0, some ⟨g, 0, none⟩, cap, none, 0, rfl, ?_, ?_⟩, hZ⟩
      · rw [M.unpack_length]; rfl
      · exact bits_keep hLB (M.unpack_length s n) (by omega) (by omega) (by omega) hk
end Go.Proofs.YtgloapcfmlijlaaGreatDoor
namespace Go.Proofs.YtgloapcfmlijlaaGreatDoor
open Go Go.RowKit

theorem bools_vl {w : World} {B n : Nat} {v : Value} {l : List Bool} (h : w.ownsRow B 4 1 v n (l.map Value.bool)) (hl : l.length = n) : ∃ a cap, v = .slice a n cap ∧ ∀ (m : Nat) (Z : World), w.heap.size ≤ m → (∀ b, B ≤ b → Z.heap[b]? = w.heap[b]?) → VlS B m 0 l [] a cap none 0 Z := by
  rcases id h.2 with ⟨rfl, rfl⟩ | ⟨g, cap, cur, rfl, hB, hg, hnc, hcm, hcs, htake⟩
  · obtain rfl : l = [] := List.eq_nil_of_length_eq_zero hl
    exact ⟨none, 0, rfl, fun m Z _ _ => .num _ _ 0 (by unfold M.In; omega) _⟩
  · refine ⟨some ⟨g, 0, none⟩, cap, rfl, fun m Z hm hk => ?_⟩
    have hgs := (Array.getElem?_eq_some_iff.1 hg).1
    have hLB : LayB w w.heap.size l (.slice (some ⟨g, 0, none⟩) l.length cap) := by
      refine LayB.row (o := 0) hgs (by omega) hcm fun i x hx => ?_
      have := World.ownsRow.cells (g := g) h rfl i (.bool x) (by simp [hx])
      rw [show (⟨g, 0, none⟩ : Addr).add i = ⟨g, i, none⟩ by unfold Addr.add; split; (rename_i e; rw [e]); rw [Nat.zero_add]] at this
      rw [Nat.zero_add]
      exact this
    exact ((VlS.bits2 hLB rfl hB).agree (.blocks fun b hb _ => hk b hb)).mono (Nat.le_refl _) hm

/-- An error told at once: the result's cells are new. -/
theorem got_new {fn : Func} (hres : fn.results = #[.cell 4 59]) (w W : World) (tmps : Array Value) (q g : Nat) (hg : g = W.heap.size) (hB : Below w.heap.size w W) (hp : tmps.getD 4 undef = .pointer (some ⟨g, 0, none⟩)) :
    bodyPost Tryz.prog fn (GotR w (M.noV, q)) .ret { tmps := tmps, defers := [] } (W.alloc (.cells #[.int .u64 0, .int .u64 0, .int .u64 0, .int .u64 0, .slice none 0 0, .slice none 0 0, .int .i64 0, .int .i64 (q : Nat)] 59)) := by
  subst hg
  have := results_cell_row (P := Tryz.prog) hres tmps _ W.heap.size 59 _ (0, 0) _ hp (World.alloc_heap_new W (.cells #[.int .u64 0, .int .u64 0, .int .u64 0, .int .u64 0, .slice none 0 0, .slice none 0 0, .int .i64 0, .int .i64 (q : Nat)] 59)) Tryz.underlying59 rfl Tryz.gotSize
  have h2 := gotR_none w q (hB.alloc hB.size (.cells #[.int .u64 0, .int .u64 0, .int .u64 0, .int .u64 0, .slice none 0 0, .slice none 0 0, .int .i64 0, .int .i64 (q : Nat)] 59))
  rw [show gvv 0 (.slice none 0 0) (.slice none 0 0) 0 q = .agg #[.int .u64 0, .int .u64 0, .int .u64 0, .int .u64 0, .slice none 0 0, .slice none 0 0, .int .i64 0, .int .i64 (q : Nat)] by
    show Value.agg _ = _
    rw [show M.pt 0 0 = 0 by decide +kernel, show M.pt 1 0 = 0 by decide +kernel, show M.pt 2 0 = 0 by decide +kernel, show M.pt 3 0 = 0 by decide +kernel]] at h2
  exact bodyPost_ret this rfl h2
set_option maxRecDepth 100000 in
set_option maxHeartbeats 4000000 in
theorem zbitlist_any (k0 : Int) (n : Nat) (v0 : Value) (s : List UInt8) (w : World) (hs : s.length ≤ 8000) (_hn : n ≤ 1000000) :
    Calls Tryz.prog 78 #[tv k0 (n : Nat) v0, .string ⟨s.toArray⟩] w (GotR w (if (toE s n).2 ≠ 0 then (M.noV, (toE s n).2) else (.mk 0 (toE s n).1 [] 0, 0))) := by
  obtain ⟨w0, hw0⟩ : ∃ w0, (w.alloc (.cells #[.int .i64 k0, .int .i64 (n : Nat), v0] 24)).alloc (.cells #[.int .u64 0, .int .u64 0, .int .u64 0, .int .u64 0, .slice none 0 0, .slice none 0 0, .int .i64 0, .int .i64 0] 59) = w0 := ⟨_, rfl⟩
  have hb0 : Below w.heap.size w w0 := by rw [← hw0]; (repeat (first | exact Below.refl _ _ | refine Below.drew ?_ | refine Below.alloc ?_ (by first | omega | (simp; omega) | simp) _ | refine Below.setCell ?_ (by first | omega | (simp; omega) | simp) _))
  have hz0 : w0.heap.size = w.heap.size + 2 := by rw [← hw0]; simp
  have hr0 : w0.heap[w.heap.size + 1]? = some (.cells #[.int .u64 0, .int .u64 0, .int .u64 0, .int .u64 0, .slice none 0 0, .slice none 0 0, .int .i64 0, .int .i64 0] 59 (0, 0)) := by
    rw [← hw0]
    have := World.alloc_heap_new (w.alloc (.cells #[.int .i64 k0, .int .i64 (n : Nat), v0] 24)) (.cells #[.int .u64 0, .int .u64 0, .int .u64 0, .int .u64 0, .slice none 0 0, .slice none 0 0, .int .i64 0, .int .i64 0] 59)
    rwa [World.size_alloc] at this
  have hB0 : BoxT w0 w.heap.size k0 (n : Nat) v0 := by rw [← hw0]; exact ⟨by simp [go_sem], by simp [go_sem], by simp [go_sem]⟩
  have t1 := hB0.c1
  have HW := Lib.hid hw0
  have HZ0 := Lib.hid hz0
  obtain ⟨⟨_, i0⟩, ⟨_, i1⟩, ⟨_, i2⟩, ⟨_, i3⟩, ⟨_, i4⟩, ⟨_, i5⟩, ⟨_, i6⟩, ⟨_, i7⟩, f0, f1, f2, f3, f4, f5, f6, f7⟩ := cells_w8 hr0
  rw [← HW.out] at i0 i1 i2 i3 i4 i5 i6 i7 f0 f1 f2 f3 f4 f5 f6 f7 t1
  clear hw0 hz0
  by_cases hs0 : s = []
  · subst hs0
    rw [toE_nil]
    go_enter Tryz.func78, Tryz.ntmps78
    go_wp2_with fail
    exact got_new rfl w _ _ 2 _ (by simp) ((Below.refl _ _).alloc (Nat.le_refl _) _) rfl
  obtain ⟨k, hk⟩ : ∃ k, s.length = k + 1 := ⟨s.length - 1, by have := List.length_pos_iff.2 hs0; omega⟩
  have hk8 : k < 8000 := by omega
  have hkl : k < s.length := by omega
  obtain ⟨c, hc⟩ : ∃ c, s[k] = c := ⟨_, rfl⟩
  have ec : ((⟨s.toArray⟩ : ByteArray)[k]'(by simpa [ByteArray.size] using hkl)) = c := hc
  have he : s.isEmpty = false := by cases s with | nil => exact absurd rfl hs0 | cons _ _ => rfl
  by_cases h0 : c.toNat = 0
  · rw [toE_zero n hk (by rw [hc]; exact h0)]
    go_enter Tryz.func78, Tryz.ntmps78
    go_wp2_with fail
    exact got_new rfl w _ _ 2 _ (by simp) ((Below.refl _ _).alloc (Nat.le_refl _) _) rfl
  rw [toE_some n hk (by rw [hc]; exact h0), hc]
  have HU := Lib.hid (fun q (hq : q ≤ 8 * s.length) W => zunpack_any s q W hs hq)
  obtain ⟨a1, a2, a3, a4⟩ := l8_top ⟨c.toNat, c.toNat_lt⟩ h0
  have a4' : Hid (∀ i, i < 8 → l8 c.toNat - 1 < i → M.nb c.toNat i = false) := fun i hi => a4 ⟨i, hi⟩
  simp only at a1 a2 a3
  have h0i : ((c.toNat : Int) == 0) = false := by rw [beq_eq_false_iff_ne]; omega
  obtain ⟨t0, ht0⟩ : ∃ t0, l8 c.toNat - 1 = t0 := ⟨_, rfl⟩
  rw [ht0] at a3 a4' ⊢
  have ht8 : t0 < 8 := by omega
  have A3 := Lib.hid a3
  obtain ⟨T, hT⟩ : ∃ T, (if (if n < 8 * k + t0 then (([] : List Bool), 5) else (M.unpackB s (8 * k + t0), 0)).2 ≠ 0 then (M.noV, (if n < 8 * k + t0 then (([] : List Bool), 5) else (M.unpackB s (8 * k + t0), 0)).2) else ((.mk 0 (if n < 8 * k + t0 then (([] : List Bool), 5) else (M.unpackB s (8 * k + t0), 0)).1 [] 0, 0) : M.Va × Nat)) = T := ⟨_, rfl⟩
  rw [hT]
  have HT := Lib.hid hT
  have h8k : (8 : Int) * ((k : Int) + 1) - 1 = ((8 * k + 7 : Nat) : Int) := by omega
  have HK := Lib.hid hk
  clear hT a1 a2 a3 a4 ht0 hc h0 hs0
  go_enter Tryz.func78, Tryz.ntmps78
  go_wp2_with fail
  try rw [HW.out]
  clear i0 i1 i2 i3 i4 i5 i6 i7 f0 f1 f2 f3 f4 f5 f6 f7 t1
  go_loopw [5] (fun i wr => ∃ t : Nat, t0 ≤ t ∧ t < 8 ∧ i = .int .i64 ((8 * k + t : Nat) : Int) ∧ wr = w0) (fun i _ => (RowKit.intOf i).toNat)
  case atStart => exact ⟨7, by omega, by omega, by first | rfl | (rw [h8k]), rfl⟩
  case round =>
    obtain ⟨t, ht, ht9, rfl, rfl⟩ := hrel
    obtain ⟨q, hq⟩ : ∃ q, 8 * k + t = q := ⟨_, rfl⟩
    rw [hq]
    have hq8 : (q : Int) % 8 = (t : Int) := by omega
    have hq9 : q < 64008 := by omega
    have hbz : (((c.toNat : Int) / 2 ^ t).tmod 2 == 0) = !M.nb c.toNat t := by
      unfold M.nb
      have e : ((c.toNat : Int) / 2 ^ t) = ((c.toNat / 2 ^ t : Nat) : Int) := by simp
      rw [e]
      generalize c.toNat / 2 ^ t = a
      rw [Int.tmod_eq_emod_of_nonneg (Int.natCast_nonneg a), Bool.eq_iff_iff, beq_iff_eq, Bool.not_eq_true', beq_eq_false_iff_ne]
      omega
    have HQ := Lib.hid hq
    by_cases htt : t = t0
    · subst htt
      rw [A3.out] at hbz
      rw [hq] at HT
      have hz0 := HZ0.out
      have t1 := hB0.c1
      by_cases hnq : n < q
      · have hnq' : (n : Int) < q := by omega
        obtain rfl : T = (M.noV, 5) := by rw [← HT.out]; simp [hnq]
        obtain ⟨⟨_, i0⟩, ⟨_, i1⟩, ⟨_, i2⟩, ⟨_, i3⟩, ⟨_, i4⟩, ⟨_, i5⟩, ⟨_, i6⟩, ⟨_, i7⟩, f0, f1, f2, f3, f4, f5, f6, f7⟩ := cells_w8 hr0
        clear hq hz0
        go_wp2_with fail
        exact got_post0 rfl w wr _ _ _ 0 5 _ (by omega) hb0 _ _ _ _ _ _ _ _ hr0 _ rfl fun Z hZ _ _ => gotR_none w 5 hZ
      · have hnq' : ¬ (n : Int) < q := by omega
        obtain rfl : T = (.mk 0 (M.unpackB s q) [] 0, 0) := by rw [← HT.out]; simp [hnq]
        have HU2 := Lib.hid (HU.out q (by omega) wr)
        clear hq hz0
        go_wp2_with fail
        refine HU2.out.mono ?_
        rintro e w1 ⟨v, rfl, hown, hb1⟩
        obtain ⟨a, cap, rfl, hvl⟩ := bools_vl hown (M.unpack_length s q)
        have hr1 := (Below.block hb1 (w.heap.size + 1) (by have := HZ0.out; omega)).trans hr0
        have hbw1 := hb0.trans (Below.mono hb1 hb0.size)
        have HVL := Lib.hid hvl
        clear hown hvl
        obtain ⟨⟨_, i0⟩, ⟨_, i1⟩, ⟨_, i2⟩, ⟨_, i3⟩, ⟨_, i4⟩, ⟨_, i5⟩, ⟨_, i6⟩, ⟨_, i7⟩, f0, f1, f2, f3, f4, f5, f6, f7⟩ := cells_w8 hr1
        go_wp2_with fail
        have hb1s := Below.size hb1
        refine got_post0 rfl w w1 _ _ _ 0 0 _ (by omega) hbw1 _ _ _ _ _ _ _ _ hr1 _ rfl fun Z hZ hz hk => ⟨⟨0, M.unpackB s q, [], 0, a, cap, none, 0, rfl, ?_, ?_⟩, hZ⟩
        · rw [M.unpack_length]; rfl
        · exact (HVL.out Z.heap.size Z (by omega) (fun b hb => hk b (by have := HZ0.out; omega))).mono hb0.size (Nat.le_refl _)
    · have hfb := a4'.out t (by omega) (by omega)
      rw [hfb] at hbz
      have hq1 : (q : Int) - 1 = ((8 * k + (t - 1) : Nat) : Int) := by omega
      have HQ1 := Lib.hid hq1
      clear hq1 hfb hq
      go_wp2_with fail
      exact ⟨⟨t - 1, by omega, by omega, congrArg (Value.int .i64) HQ1.out, trivial⟩, by have := HQ.out; simp [RowKit.intOf]; omega⟩
end Go.Proofs.YtgloapcfmlijlaaGreatDoor
namespace Go.Proofs.YtgloapcfmlijlaaGreatDoor
open Go Go.RowKit

/-- What the reference's Of must do, for types of such depth. -/
def OfZ (z : Nat) : Prop := ∀ (k n : Int) (ts : List M.Ty) (a : Option Addr) (cap : Nat) (s : List UInt8) (w : World), SizeOf.sizeOf ts ≤ z → LayT w w.heap.size ts (.slice a ts.length cap) → M.chkT 0 (.mk k n ts) = 0 → s.length ≤ 8000 →
  Calls Tryz.prog 35 #[tv k n (.slice a ts.length cap), .string ⟨s.toArray⟩] w (GotR w (M.getV (.mk k n ts) s))

set_option maxRecDepth 100000 in
set_option maxHeartbeats 8000000 in
theorem zrow_any (z : Nat) (ih : Hid (OfZ z)) (k n : Int) (ts : List M.Ty) (a : Option Addr) (cap : Nat) (s : List UInt8) (w : World) (many q : Nat) (hs : SizeOf.sizeOf ts ≤ z + 1) (hL : LayT w w.heap.size ts (.slice a ts.length cap)) (hc : M.chkT 0 (.mk k n ts) = 0) (hk : k ≠ 8) (h1 : k ≠ 7 → ts.length = 1)
    (hit : Hid (∀ W, Below w.heap.size w W → Calls Tryz.prog 159 #[tv k n (.slice a ts.length cap), .string ⟨s.toArray⟩] W fun e w' => e = .returned (.tuple #[.int .i64 (many : Nat), .int .i64 (q : Nat)]) ∧ Below W.heap.size W w')) (hm : q = 0 → many ≤ 1000 ∧ ∀ i, i < many → M.place k ts.length 0 i) (hl : s.length ≤ 8000) :
    Calls Tryz.prog 79 #[tv k n (.slice a ts.length cap), .string ⟨s.toArray⟩] w (GotR w (if q ≠ 0 then (M.noV, q) else M.rowG ts many s)) := by
  obtain ⟨w0, hw0⟩ : ∃ w0, (w.alloc (.cells #[.int .i64 k, .int .i64 n, .slice a ts.length cap] 24)).alloc (.cells #[.int .u64 0, .int .u64 0, .int .u64 0, .int .u64 0, .slice none 0 0, .slice none 0 0, .int .i64 0, .int .i64 0] 59) = w0 := ⟨_, rfl⟩
  have hb0 : Below w.heap.size w w0 := by rw [← hw0]; (repeat (first | exact Below.refl _ _ | refine Below.drew ?_ | refine Below.alloc ?_ (by first | omega | (simp; omega) | simp) _ | refine Below.setCell ?_ (by first | omega | (simp; omega) | simp) _))
  have hz0 : w0.heap.size = w.heap.size + 2 := by rw [← hw0]; simp
  have hr0 : w0.heap[w.heap.size + 1]? = some (.cells #[.int .u64 0, .int .u64 0, .int .u64 0, .int .u64 0, .slice none 0 0, .slice none 0 0, .int .i64 0, .int .i64 0] 59 (0, 0)) := by
    rw [← hw0]
    have := World.alloc_heap_new (w.alloc (.cells #[.int .i64 k, .int .i64 n, .slice a ts.length cap] 24)) (.cells #[.int .u64 0, .int .u64 0, .int .u64 0, .int .u64 0, .slice none 0 0, .slice none 0 0, .int .i64 0, .int .i64 0] 59)
    rwa [World.size_alloc] at this
  have hB0 : BoxT w0 w.heap.size k n (.slice a ts.length cap) := by rw [← hw0]; exact ⟨by simp [go_sem], by simp [go_sem], by simp [go_sem]⟩
  have t0 := hB0.c0
  have t1 := hB0.c1
  have t2 := hB0.c2
  have HW := Lib.hid hw0
  rw [← HW.out] at t0 t1 t2
  obtain ⟨T, hT⟩ : ∃ T, (if q ≠ 0 then (M.noV, q) else M.rowG ts many s) = T := ⟨_, rfl⟩
  rw [hT]
  have HT := Lib.hid hT
  clear hw0 hT
  go_enter Tryz.func79, Tryz.ntmps79
  go_wp2_with fail
  rw [HW.out]
  refine (hit.out w0 hb0).mono ?_
  rintro e w1 ⟨rfl, hb1⟩
  rw [HW.out] at t0 t1 t2
  have hbw1 := hb0.trans (hb1.mono hb0.size)
  have hr1 := (hb1.block _ (by omega)).trans hr0
  by_cases hq : q = 0
  case neg =>
    have hq' : ¬ (q : Int) = 0 := by omega
    have hW8 := cells_w8 hr1
    obtain ⟨⟨o0, c0⟩, ⟨o1, c1⟩, ⟨o2, c2⟩, ⟨o3, c3⟩, ⟨o4, c4⟩, ⟨o5, c5⟩, ⟨o6, c6⟩, ⟨o7, c7⟩, f0, f1, f2, f3, f4, f5, f6, f7⟩ := hW8
    go_wp2_with fail
    refine got_post0 (fn := Tryz.f79) rfl w w1 _ _ _ _ _ _ (by omega) hbw1 _ _ _ _ _ _ _ _ hr1 _ rfl ?_
    intro Z hZ _ _
    rw [← HT.out, if_pos hq]
    exact gotR_none w q hZ
  subst hq
  obtain ⟨hm9, hpl⟩ := hm rfl
  replace HT : Hid (M.rowG ts many s = T) := by have := HT.out; rw [if_neg (by simp)] at this; exact Lib.hid this
  have hB1 := hB0.from_ hb1 (by omega)
  clear t0 t1 t2
  have t0 := hB1.c0
  have t1 := hB1.c1
  have t2 := hB1.c2
  have hLw1 : LayT w1 w1.heap.size ts (.slice a ts.length cap) := (hL.from_ hbw1).mono hbw1.size
  obtain ⟨ks, hks⟩ : ∃ ks, M.kdsT ts many = ks := ⟨_, rfl⟩
  have hchi : ∀ i, i < many → M.chkT 0 (M.tyAt ts i) = 0 := by
    intro i hi
    have hmem := M.tyAt_in (ts := ts) (by rcases hpl i hi with ⟨_, h⟩ | ⟨h, _⟩ | ⟨_, _, h⟩ <;> omega) i
    exact M.chkT_mono _ 1 0 (M.chkTs_ok.1 (M.chkT_ok.1 hc).2.2.2 _ hmem) (by omega)
  have hk2 : M.kds k ts 0 many = ks := by
    rw [← hks]
    unfold M.kds M.kdsT
    refine List.map_congr_left fun i hi => ?_
    have hi' := List.mem_range.1 hi
    rw [M.in_ty (hpl i hi') hk h1, kdT_chk (hchi i hi')]
  have HOF := Lib.hid (zoffsets_any k n ts a cap s many w1 hLw1 hc hm9 hpl hl ks (Lib.hid hk2))
  go_wp2_with fail
  refine HOF.out.mono ?_
  rintro e w2 ⟨hcase, hb2⟩
  have hbw2 := hbw1.trans (Below.mono hb2 hbw1.size)
  have hr2 := (Below.block hb2 (w.heap.size + 1) (by have := hb1.size; omega)).trans hr1
  rcases hcase with ⟨hok, v, rfl, hown⟩ | ⟨hno, rfl⟩
  case inr =>
    have HNO : M.rowG ts many s = (M.noV, 2) := M.rowG_no (by rw [hks]; exact hno)
    have hW8 := cells_w8 hr2
    obtain ⟨⟨o0, c0⟩, ⟨o1, c1⟩, ⟨o2, c2⟩, ⟨o3, c3⟩, ⟨o4, c4⟩, ⟨o5, c5⟩, ⟨o6, c6⟩, ⟨o7, c7'⟩, f0, f1, f2, f3, f4, f5, f6, f7⟩ := hW8
    go_wp2_with fail
    refine got_post0 (fn := Tryz.f79) rfl w w2 _ _ _ _ 2 _ (by omega) hbw2 _ _ _ _ _ _ _ _ hr2 _ rfl ?_
    intro Z hZ _ _
    rw [← HT.out, HNO]
    exact gotR_none w 2 hZ
  obtain ⟨g, lc, hv, hgB, hgs, hgc⟩ := hown.row (by simp)
  obtain ⟨ll, hll⟩ : ∃ ll, (M.offsT s 0 ks ++ [s.length]).length = ll := ⟨_, rfl⟩
  rw [hll] at hv
  subst hv
  obtain ⟨A, hA⟩ : ∃ A, w2.alloc (.cells #[.int .u64 0, .int .u64 0, .int .u64 0, .int .u64 0, .slice none 0 0, .slice none 0 0, .int .i64 0] 33) = A := ⟨_, rfl⟩
  have hbA : Below w2.heap.size w2 A := by rw [← hA]; exact (Below.refl _ _).alloc (Nat.le_refl _) _
  have hzA : A.heap.size = w2.heap.size + 1 := by rw [← hA]; simp
  have hrA : A.heap[w2.heap.size]? = some (.cells #[.int .u64 0, .int .u64 0, .int .u64 0, .int .u64 0, .slice none 0 0, .slice none 0 0, .int .i64 0] 33 (0, 0)) := by rw [← hA]; exact World.alloc_heap_new _ _
  have HA := Lib.hid hA
  clear hA
  go_wp2_with fail
  rw [HA.out]
  have hzw1 := hb1.size
  have hzw2 := hb2.size
  have hbwA : Below w.heap.size w A := hbw2.trans (hbA.mono hbw2.size)
  have hBA := (hB1.from_ (Below.mono hb2 (Nat.le_refl _)) (by omega)).from_ hbA (by omega)
  have hrR := (Below.block hbA (w.heap.size + 1) (by omega)).trans hr2
  have hcA : ∀ (j m : Nat), (M.offsT s 0 ks ++ [s.length])[j]? = some m → A.cell? ⟨g, j, none⟩ = some (.int .i64 (m : Nat)) := fun j m e => (Below.cell hbA (p := ⟨g, j, none⟩) hgs).trans (hgc j m e)
  have hkl : Hid (ks.length = many) := by show _ = _; rw [← hks]; exact M.kds_length ts many
  have hki : Hid (∀ j, j < many → ks[j]? = some (M.kindOf (M.inT k ts 0 j))) := fun j hj => by rw [← hk2]; unfold M.kds; rw [List.getElem?_map, List.getElem?_range hj]; rfl
  have hll9 : ll ≤ 1001 := by
    have e1 := M.offs_length s ks 0
    have e2 := List.count_le_length (a := none) (l := ks)
    rw [hkl.out] at e2
    rw [List.length_append, e1, List.length_singleton] at hll
    omega
  clear t0 t1 t2 hown hgc hm hit
  go_loopw [10, 11, 12] (fun at_ kk i wr => ∃ (j : Nat) (L : List (M.Va × Value × Value)) (IT : Value), j ≤ many ∧ i = .int .i64 (j : Nat) ∧ at_ = .int .i64 (M.hdLen (ks.take j) : Nat) ∧ kk = .int .i64 ((ks.take j).count none : Nat) ∧ L.length = j ∧ VaRow A.heap.size wr L IT ∧ wr.heap[w2.heap.size]? = some (.cells #[.int .u64 0, .int .u64 0, .int .u64 0, .int .u64 0, .slice none 0 0, IT, .int .i64 0] 33 (0, 0)) ∧ Gr A wr (fun b => b = w2.heap.size) ∧
      (∀ (i : Nat) (b : List UInt8) (p : M.Va × Value × Value), i < j → (M.partsT s 0 ks (M.offsT s 0 ks))[i]? = some b → L[i]? = some p → M.getV (M.tyAt ts i) b = (p.1, 0)))
    (fun _ _ i _ => many - (RowKit.intOf i).toNat)
  case atStart => exact ⟨0, [], .slice none 0 0, by omega, rfl, rfl, rfl, rfl, VaRow.nil _ _, hrA, Gr.refl _ _, fun i b p h => by omega⟩
  case round =>
    obtain ⟨j, L, IT, hj, rfl, rfl, rfl, hLl, hV, hrV, hG, hP⟩ := hrel
    have hszA := hG.size
    have hbW : Below w.heap.size w wr := Gr.low hbwA hG (by omega) (fun b e => by omega)
    by_cases hlt : j < many
    case neg =>
      obtain rfl : j = many := by omega
      obtain ⟨ia, ic', rfl⟩ := hV.slice
      have hr8 := (hG.block (w.heap.size + 1) (by omega) (by omega)).trans hrR
      obtain ⟨⟨o0, c0⟩, ⟨o1, c1⟩, ⟨o2, c2'⟩, ⟨o3, c3⟩, ⟨o4, c4⟩, ⟨o5, c5⟩, ⟨o6, c6⟩, ⟨o7, c7'⟩, f0, f1, f2, f3, f4, f5, f6, f7⟩ := cells_w8 hr8
      have d0 : wr.cell? ⟨w2.heap.size, 0, none⟩ = some (.int .u64 0) := by simp [World.cell?, hrV]
      have d1 : wr.cell? ⟨w2.heap.size, 1, none⟩ = some (.int .u64 0) := by simp [World.cell?, hrV]
      have d2 : wr.cell? ⟨w2.heap.size, 2, none⟩ = some (.int .u64 0) := by simp [World.cell?, hrV]
      have d3 : wr.cell? ⟨w2.heap.size, 3, none⟩ = some (.int .u64 0) := by simp [World.cell?, hrV]
      have d4 : wr.cell? ⟨w2.heap.size, 4, none⟩ = some (.slice none 0 0) := by simp [World.cell?, hrV]
      have d5 : wr.cell? ⟨w2.heap.size, 5, none⟩ = some (.slice ia L.length ic') := by simp [World.cell?, hrV]
      have d6 : wr.cell? ⟨w2.heap.size, 6, none⟩ = some (.int .i64 0) := by simp [World.cell?, hrV]
      have HLL := Lib.hid hLl
      clear hLl
      go_wp2_with fail
      refine got_post0 (fn := Tryz.f79) rfl w wr _ _ _ _ 0 _ (by omega) hbW _ _ _ _ _ _ _ _ hr8 _ rfl ?_
      intro Z hZ hzz hkz
      have hyes := M.rowG_ok (ts := ts) (m := j) (s := s) (vs := L.map (·.1)) (by rw [hks]; exact hok) (by rw [List.length_map]; exact HLL.out) (fun i b v hi hb hv => by
        rw [hks] at hb
        rw [List.getElem?_map] at hv
        cases hl : L[i]? with
        | none => rw [hl] at hv; cases hv
        | some p =>
          rw [hl] at hv
          cases hv
          exact hP i b p hi hb hl)
      rw [← HT.out, hyes]
      refine ⟨⟨0, [], L.map (·.1), 0, none, 0, ia, ic', rfl, ?_, ?_⟩, hZ⟩
      · rw [List.length_map]
        rfl
      · exact (hV.vls.agree (Agree.blocks fun b h1 h2 => hkz b (by omega))).mono (by omega) (by omega)
    obtain ⟨k', m', ts', at', ct', hin, hc1, hmem, hT', HI⟩ := zin_at ((hL.from_ hbW).mono hbW.size) hc (hpl j hlt)
    have HI := fun W h => HI W h 0 (.slice none 0 0) (.slice none 0 0)
    simp only [vv8_0] at HI
    have HI := Lib.hid HI
    have hty : M.tyAt ts j = .mk k' m' ts' := by rw [← hin]; exact (M.in_ty (hpl j hlt) hk h1).symm
    have hkj := hki.out j hlt
    rw [hin, M.kind_of hc1] at hkj
    have hhd : M.hdLen (ks.take j) + M.hdLen [M.kindOf (.mk k' m' ts')] ≤ s.length := by
      have := M.hd_snoc (hki.out j hlt)
      rw [hin] at this
      rw [M.hdLen_one, ← this]
      refine Nat.le_trans (M.hd_take ks (j + 1)) ?_
      unfold M.okRow at hok
      simp only [Bool.and_eq_true, decide_eq_true_eq] at hok
      exact hok.1.1
    rw [M.hd_fix hc1] at hhd
    have hsx : SizeOf.sizeOf ts' ≤ z := by have := List.sizeOf_lt_of_mem hmem; simp at this; omega
    have HFX := Lib.hid (fun W (h : Below wr.heap.size wr W) => tfixed_any k' m' ts' at' ct' W ((hT'.from_ h).mono h.size))
    have HSZ := Lib.hid (fun W (h : Below wr.heap.size wr W) => tsize_any k' m' ts' at' ct' W ((hT'.from_ h).mono h.size))
    have HOFF := Lib.hid (fun (b : List UInt8) (hb : b.length ≤ 8000) W (h : Below wr.heap.size wr W) => ih.out k' m' ts' at' ct' b W hsx ((hT'.from_ h).mono h.size) (M.chkT_mono _ 1 0 hc1 (by omega)) hb)
    generalize M.fixedT (.mk k' m' ts') = fx at *
    generalize M.sizeT (.mk k' m' ts') = sz at *
    clear hin hc1 hT' hmem
    have c0 := (hG.cell (p := ⟨w.heap.size, 0, none⟩) (by show w.heap.size < _; omega) (by show w.heap.size ≠ _; omega)).trans hBA.c0
    have c1 := (hG.cell (p := ⟨w.heap.size, 1, none⟩) (by show w.heap.size < _; omega) (by show w.heap.size ≠ _; omega)).trans hBA.c1
    have c2 := (hG.cell (p := ⟨w.heap.size, 2, none⟩) (by show w.heap.size < _; omega) (by show w.heap.size ≠ _; omega)).trans hBA.c2
    have HKJ := Lib.hid hkj
    have HHD := Lib.hid hhd
    have HV := Lib.hid hV
    have HP := Lib.hid hP
    clear hkj hhd hV hP
    generalize hq : M.hdLen (ks.take j) = q
    generalize hcn : (ks.take j).count none = cn
    have HQ := Lib.hid hq
    have HC := Lib.hid hcn
    clear hq hcn
    go_wp2_with fail
    refine (HI.out wr (Below.refl _ _)).mono ?_
    rintro e w3 ⟨rfl, hb3⟩
    clear c0 c1 c2
    obtain ⟨w4, hw4⟩ : ∃ w4, w3.alloc (.cells #[.int .i64 k', .int .i64 m', .slice at' ts'.length ct'] 24) = w4 := ⟨_, rfl⟩
    have hz4 : w4.heap.size = w3.heap.size + 1 := by rw [← hw4]; simp
    have hb4 : Below w3.heap.size w3 w4 := by rw [← hw4]; exact (Below.refl _ _).alloc (Nat.le_refl _) _
    have hB4 : BoxT w4 w3.heap.size k' m' (.slice at' ts'.length ct') := by rw [← hw4]; exact BoxT.new _ _ _ _ _
    have hbr4 : Below wr.heap.size wr w4 := Below.trans hb3 (hb4.mono hb3.size)
    have HW4 := Lib.hid hw4
    clear hw4
    go_wp2_with fail
    rw [HW4.out]
    refine (HFX.out _ hbr4).mono ?_
    rintro e w5 ⟨rfl, hb5⟩
    have hbr5 : Below wr.heap.size wr w5 := hbr4.trans (Below.mono hb5 hbr4.size)
    have hB5 := hB4.from_ hb5 (by omega)
    have t0 := hB5.c0
    have t1 := hB5.c1
    have t2 := hB5.c2
    cases fx with
    | true =>
      have hkj := HKJ.out
      simp only [↓reduceIte] at hkj
      have hhd := HHD.out
      simp only [↓reduceIte, HQ.out] at hhd
      have HPT := Lib.hid (M.part_fix (s := s) hkj)
      have HN1 := Lib.hid (M.hd_snoc hkj)
      have HN2 : Hid ((ks.take (j + 1)).count none = cn) := by show _ = _; rw [M.take_snoc hkj, List.count_append, HC.out]; simp
      rw [HQ.out] at HPT HN1
      clear hkj HHD
      obtain ⟨q4, hq4⟩ : ∃ q4, q + sz = q4 := ⟨_, rfl⟩
      have hq4i : (q : Int) + sz = (q4 : Int) := by omega
      obtain ⟨part, hpart⟩ : ∃ part, (s.drop q).take sz = part := ⟨_, rfl⟩
      have hpl8 : part.length ≤ 8000 := by rw [← hpart, List.length_take, List.length_drop]; omega
      have hsl : ∀ Y : World, (Instr.slice 9 (.string ⟨s.toArray⟩) (some (.int .i64 (q : Nat))) (some (.int .i64 (q4 : Nat))) none).run Tryz.prog Y = .ok (.string ⟨part.toArray⟩) Y := fun Y => by
        rw [slice_str s q q4 (by omega) (by omega) Y, cutS, ← hpart, ← hq4, List.drop_take, Nat.add_sub_cancel_left]
      rw [hpart] at HPT
      have HQ4 := Lib.hid hq4
      clear hq4 hpart
      go_wp2_with fail
      refine (HSZ.out _ hbr5).mono ?_
      rintro e w6 ⟨rfl, hb6⟩
      have hbr6 := hbr5.trans (Below.mono hb6 hbr5.size)
      have hB6 := hB5.from_ hb6 (by have := hb5.size; omega)
      clear t0 t1 t2
      have t0 := hB6.c0
      have t1 := hB6.c1
      have t2 := hB6.c2
      go_wp2_with fail
      refine (HOFF.out part hpl8 w6 hbr6).mono ?_
      rintro e w7 ⟨⟨N7, bs7, us7, p7, ab7, cb7, au7, cu7, hr7, rfl, hV7⟩, hb7⟩
      have hbr7 := hbr6.trans (Below.mono hb7 hbr6.size)
      have hX7 := hbr6.size
      generalize hr : M.getV (.mk k' m' ts') part = r7 at *
      obtain ⟨v7, q7⟩ := r7
      obtain rfl : v7 = .mk N7 bs7 us7 p7 := hr7
      have HR := Lib.hid hr
      clear hr
      dsimp only
      obtain ⟨w8, hw8⟩ : ∃ w8, w7.alloc (.cells #[.int .u64 (M.pt 0 N7), .int .u64 (M.pt 1 N7), .int .u64 (M.pt 2 N7), .int .u64 (M.pt 3 N7), .slice ab7 bs7.length cb7, .slice au7 us7.length cu7, .int .i64 p7, .int .i64 (q7 : Nat)] 59) = w8 := ⟨_, rfl⟩
      have hz8 : w8.heap.size = w7.heap.size + 1 := by rw [← hw8]; simp
      have hb8 : Below w7.heap.size w7 w8 := by rw [← hw8]; exact (Below.refl _ _).alloc (Nat.le_refl _) _
      have hbr8 : Below wr.heap.size wr w8 := hbr7.trans (hb8.mono hbr7.size)
      have hs8 := hbr8.size
      have d8 : w8.heap[w7.heap.size]? = some (.cells #[.int .u64 (M.pt 0 N7), .int .u64 (M.pt 1 N7), .int .u64 (M.pt 2 N7), .int .u64 (M.pt 3 N7), .slice ab7 bs7.length cb7, .slice au7 us7.length cu7, .int .i64 p7, .int .i64 (q7 : Nat)] 59 (0, 0)) := by rw [← hw8]; exact World.alloc_heap_new _ _
      have d0 : w8.cell? ⟨w7.heap.size, 0, none⟩ = some (.int .u64 (M.pt 0 N7)) := by simp [World.cell?, d8]
      have d1 : w8.cell? ⟨w7.heap.size, 1, none⟩ = some (.int .u64 (M.pt 1 N7)) := by simp [World.cell?, d8]
      have d2 : w8.cell? ⟨w7.heap.size, 2, none⟩ = some (.int .u64 (M.pt 2 N7)) := by simp [World.cell?, d8]
      have d3 : w8.cell? ⟨w7.heap.size, 3, none⟩ = some (.int .u64 (M.pt 3 N7)) := by simp [World.cell?, d8]
      have d4 : w8.cell? ⟨w7.heap.size, 4, none⟩ = some (.slice ab7 bs7.length cb7) := by simp [World.cell?, d8]
      have d5 : w8.cell? ⟨w7.heap.size, 5, none⟩ = some (.slice au7 us7.length cu7) := by simp [World.cell?, d8]
      have d6 : w8.cell? ⟨w7.heap.size, 6, none⟩ = some (.int .i64 p7) := by simp [World.cell?, d8]
      have d7 : w8.cell? ⟨w7.heap.size, 7, none⟩ = some (.int .i64 (q7 : Nat)) := by simp [World.cell?, d8]
      have HW8 := Lib.hid hw8
      clear hw8
      by_cases hq7 : q7 = 0
      case neg =>
        have hq7' : ¬ (q7 : Int) = 0 := by omega
        have hr8 := (hbr8.block (w.heap.size + 1) (by omega)).trans ((hG.block (w.heap.size + 1) (by omega) (by omega)).trans hrR)
        obtain ⟨⟨o0, c0⟩, ⟨o1, c1⟩, ⟨o2, c2'⟩, ⟨o3, c3⟩, ⟨o4, c4⟩, ⟨o5, c5⟩, ⟨o6, c6⟩, ⟨o7, c7'⟩, f0, f1, f2, f3, f4, f5, f6, f7⟩ := cells_w8 hr8
        clear d0 d1 d2 d3 d4 d5 d6
        rw [← HW8.out] at d7 c0 c1 c2' c3 c4 c5 c6 c7' f0 f1 f2 f3 f4 f5 f6 f7
        go_wp2_with fail
        rw [HW8.out]
        refine got_post0 (fn := Tryz.f79) rfl w w8 _ _ _ _ q7 _ (by omega) (hbW.trans (hbr8.mono hbW.size)) _ _ _ _ _ _ _ _ hr8 _ rfl ?_
        intro Z hZ _ _
        have herr := M.rowG_err (ts := ts) (m := many) (d := j) (s := s) (b := part) (by rw [hks]; exact hok) hlt (by rw [hks]; exact HPT.out) (fun i b hi hb => by
          rw [hks] at hb
          obtain ⟨p, hp⟩ : ∃ p, L[i]? = some p := ⟨_, List.getElem?_eq_getElem (by omega)⟩
          rw [HP.out i b p hi hb hp]) (by rw [hty, HR.out]; exact hq7)
        rw [← HT.out, herr, hty, HR.out]
        exact gotR_none w q7 hZ
      subst hq7
      obtain ⟨w9, hw9⟩ : ∃ w9, w8.alloc (.cells #[.int .u64 (M.pt 0 N7), .int .u64 (M.pt 1 N7), .int .u64 (M.pt 2 N7), .int .u64 (M.pt 3 N7), .slice ab7 bs7.length cb7, .slice au7 us7.length cu7, .int .i64 p7] 33) = w9 := ⟨_, rfl⟩
      have hz9 : w9.heap.size = w8.heap.size + 1 := by rw [← hw9]; simp
      have hb9 : Below w8.heap.size w8 w9 := by rw [← hw9]; exact (Below.refl _ _).alloc (Nat.le_refl _) _
      have hbr9 : Below wr.heap.size wr w9 := hbr8.trans (hb9.mono hbr8.size)
      have d9 : w9.heap[w8.heap.size]? = some (.cells #[.int .u64 (M.pt 0 N7), .int .u64 (M.pt 1 N7), .int .u64 (M.pt 2 N7), .int .u64 (M.pt 3 N7), .slice ab7 bs7.length cb7, .slice au7 us7.length cu7, .int .i64 p7] 33 (0, 0)) := by rw [← hw9]; exact World.alloc_heap_new _ _
      have hs7 := hb7.size
      have hV9 : VaRow A.heap.size w9 L IT := HV.out.blocks hbr9.size (fun b _ hb => hbr9.block b hb)
      have hK9 : VlS w6.heap.size w7.heap.size N7 bs7 us7 ab7 cb7 au7 cu7 w9 := hV7.agree (Agree.below (hb8.trans (hb9.mono (by omega))))
      obtain ⟨IT', w10, hrun, hV10, hgr⟩ := va_append hV9 (by omega) (by omega) 31 w8.heap.size 1 N7 bs7 us7 p7 ab7 cb7 au7 cu7 w6.heap.size w7.heap.size (fun i x e => by
        rw [addr0_add]
        have : (#[.int .u64 (M.pt 0 N7), .int .u64 (M.pt 1 N7), .int .u64 (M.pt 2 N7), .int .u64 (M.pt 3 N7), .slice ab7 bs7.length cb7, .slice au7 us7.length cu7, .int .i64 p7] : Array Value)[i]? = some x := by simpa [c7] using e
        simp [World.cell?, d9]
        simpa using this) (by omega) (by omega) (fun b e => .inl (by have := (HV.out.own.lt b e).2; omega)) hK9
      obtain ⟨ia, ic', hIT⟩ := hV10.slice
      generalize (L ++ [(M.Va.mk N7 bs7 us7 p7, Value.slice ab7 bs7.length cb7, Value.slice au7 us7.length cu7)]).length = nl at hIT
      subst hIT
      have hvl : w2.heap.size < w9.heap.size := by omega
      have hvn : w2.heap.size ≠ w2.heap.size → False := fun h => h rfl
      have e8 := (hbr8.block w2.heap.size (by omega)).trans hrV
      have e10 := (hgr.block w2.heap.size (by omega) (fun e => by have := (HV.out.own.lt _ e.symm).1; omega)).trans ((hbr9.block w2.heap.size (by omega)).trans hrV)
      have e7 := (hbr7.block w2.heap.size (by omega)).trans hrV
      have i7 : w7.cell? ⟨w2.heap.size, 5, none⟩ = some IT := by simp [World.cell?, e7]
      have hl7 : w2.heap.size < w7.heap.size := by omega
      have i8 : w8.cell? ⟨w2.heap.size, 5, none⟩ = some IT := by simp [World.cell?, e8]
      have i10 : w10.cell? ⟨w2.heap.size, 5, none⟩ = some IT := by simp [World.cell?, e10]
      have j10 : w10.frozen? ⟨w2.heap.size, 5, none⟩ = false := by simp [World.frozen?, e10]
      have HRUN := Lib.hid hrun
      have HW9 := Lib.hid hw9
      clear hw9 d7
      rw [hz8, ← HW9.out, ← HW8.out, show ((0 : Nat) : Int) = 0 from rfl] at hrun
      rw [← HW8.out] at d0 d1 d2 d3 d4 d5 d6 i8
      go_wp2_with (at_builtin; refine wpList_append_runz rfl _ _ _ rfl _ _ _ rfl rfl hrun ?_)
      have hG9 := hG.below hbr9
      have hG10 := hG9.grow hgr (fun b e => .inl (HV.out.own.lt b e).1)
      have es := setCell_eq_setRow w10 w2.heap.size 5 _ 33 (0, 0) (.slice ia nl ic') e10
      have er := setRow_heap w10 w2.heap.size _ ((#[.int .u64 0, .int .u64 0, .int .u64 0, .int .u64 0, .slice none 0 0, IT, .int .i64 0] : Array Value).setIfInBounds 5 (.slice ia nl ic')) 33 (0, 0) e10
      have hg10 := hgr.size
      refine ⟨⟨j + 1, L ++ [(.mk N7 bs7 us7 p7, .slice ab7 bs7.length cb7, .slice au7 us7.length cu7)], .slice ia nl ic', by omega, by simp, ?_, ?_, by simp [hLl], ?_, ?_, ?_, ?_⟩, by simp [intOf]; omega⟩
      · rw [HN1.out]
        exact congrArg (Value.int .i64) (by have := HQ4.out; simp; omega)
      · rw [HN2.out]
      · refine hV10.blocks (by simp) (fun b hb _ => ?_)
        rw [es]
        exact setRow_other _ _ _ _ (by omega)
      · rw [es, er]
        rfl
      · exact hG10.set _ _ (.inr rfl)
      · intro i b p hi hb hp
        by_cases hij : i < j
        · rw [List.getElem?_append_left (by omega)] at hp
          exact HP.out i b p hij hb hp
        · obtain rfl : i = j := by omega
          rw [HPT.out] at hb
          cases hb
          rw [List.getElem?_append_right (by omega), hLl, Nat.sub_self] at hp
          cases hp
          rw [hty]
          exact HR.out
    | false =>
      have hkj := HKJ.out
      simp only [Bool.false_eq_true, ↓reduceIte] at hkj
      have hhd := HHD.out
      simp only [Bool.false_eq_true, ↓reduceIte, HQ.out] at hhd
      obtain ⟨ea, eb, he1, he2, hab, hbl, hpp⟩ := M.part_off hok hkj
      have HN1 := Lib.hid (M.hd_snoc hkj)
      have HN2 : Hid ((ks.take (j + 1)).count none = cn + 1) := by show _ = _; rw [M.take_snoc hkj, List.count_append, HC.out]; simp
      rw [HQ.out] at HN1
      rw [HC.out] at he1 he2
      have hcl : cn + 1 < ll := by have := (List.getElem?_eq_some_iff.1 he2).1; omega
      obtain ⟨c2, hc2⟩ : ∃ c2, cn + 1 = c2 := ⟨_, rfl⟩
      have hc2i : (cn : Int) + 1 = (c2 : Int) := by omega
      have hcl1 : (cn : Int) < ll := by omega
      have hcl2 : (c2 : Int) < ll := by omega
      have hcl3 : cn < ll := by omega
      have hc29 : c2 < 6000 := by omega
      have hcn9 : cn < 6000 := by omega
      have hcl4 : c2 < ll := by omega
      rw [hc2] at he2 HN2
      have hx1 := (hbr5.cell (p := ⟨g, cn, none⟩) (by show g < _; omega)).trans ((hG.cell (p := ⟨g, cn, none⟩) (by show g < _; omega) (by show g ≠ _; omega)).trans (hcA _ _ he1))
      have hx2 := (hbr5.cell (p := ⟨g, c2, none⟩) (by show g < _; omega)).trans ((hG.cell (p := ⟨g, c2, none⟩) (by show g < _; omega) (by show g ≠ _; omega)).trans (hcA _ _ he2))
      clear hkj HHD he1 he2
      obtain ⟨q4, hq4⟩ : ∃ q4, q + 4 = q4 := ⟨_, rfl⟩
      have hq4i : (q : Int) + 4 = (q4 : Int) := by omega
      obtain ⟨part, hpart⟩ : ∃ part, (s.drop ea).take (eb - ea) = part := ⟨_, rfl⟩
      have hpl8 : part.length ≤ 8000 := by rw [← hpart, List.length_take, List.length_drop]; omega
      have hsl : ∀ Y : World, (Instr.slice 9 (.string ⟨s.toArray⟩) (some (.int .i64 (ea : Nat))) (some (.int .i64 (eb : Nat))) none).run Tryz.prog Y = .ok (.string ⟨part.toArray⟩) Y := fun Y => by
        rw [slice_str s ea eb hab hbl Y, cutS, ← hpart, List.drop_take]
      rw [hpart] at hpp
      have HPT := Lib.hid hpp
      have HQ4 := Lib.hid hq4
      clear hq4 hpart hpp hcl hc2
      go_wp2_with fail
      go_region
      go_wp2_with fail
      have hbrd : Below wr.heap.size wr w5.drew := Below.drew hbr5
      refine (HOFF.out part hpl8 w5.drew hbrd).mono ?_
      rintro e w7 ⟨⟨N7, bs7, us7, p7, ab7, cb7, au7, cu7, hr7, rfl, hV7⟩, hb7⟩
      have hbr7 := hbrd.trans (Below.mono hb7 hbrd.size)
      have hX7 := hbrd.size
      generalize hr : M.getV (.mk k' m' ts') part = r7 at *
      obtain ⟨v7, q7⟩ := r7
      obtain rfl : v7 = .mk N7 bs7 us7 p7 := hr7
      have HR := Lib.hid hr
      clear hr
      dsimp only
      obtain ⟨w8, hw8⟩ : ∃ w8, w7.alloc (.cells #[.int .u64 (M.pt 0 N7), .int .u64 (M.pt 1 N7), .int .u64 (M.pt 2 N7), .int .u64 (M.pt 3 N7), .slice ab7 bs7.length cb7, .slice au7 us7.length cu7, .int .i64 p7, .int .i64 (q7 : Nat)] 59) = w8 := ⟨_, rfl⟩
      have hz8 : w8.heap.size = w7.heap.size + 1 := by rw [← hw8]; simp
      have hb8 : Below w7.heap.size w7 w8 := by rw [← hw8]; exact (Below.refl _ _).alloc (Nat.le_refl _) _
      have hbr8 : Below wr.heap.size wr w8 := hbr7.trans (hb8.mono hbr7.size)
      have hs8 := hbr8.size
      have d8 : w8.heap[w7.heap.size]? = some (.cells #[.int .u64 (M.pt 0 N7), .int .u64 (M.pt 1 N7), .int .u64 (M.pt 2 N7), .int .u64 (M.pt 3 N7), .slice ab7 bs7.length cb7, .slice au7 us7.length cu7, .int .i64 p7, .int .i64 (q7 : Nat)] 59 (0, 0)) := by rw [← hw8]; exact World.alloc_heap_new _ _
      have d0 : w8.cell? ⟨w7.heap.size, 0, none⟩ = some (.int .u64 (M.pt 0 N7)) := by simp [World.cell?, d8]
      have d1 : w8.cell? ⟨w7.heap.size, 1, none⟩ = some (.int .u64 (M.pt 1 N7)) := by simp [World.cell?, d8]
      have d2 : w8.cell? ⟨w7.heap.size, 2, none⟩ = some (.int .u64 (M.pt 2 N7)) := by simp [World.cell?, d8]
      have d3 : w8.cell? ⟨w7.heap.size, 3, none⟩ = some (.int .u64 (M.pt 3 N7)) := by simp [World.cell?, d8]
      have d4 : w8.cell? ⟨w7.heap.size, 4, none⟩ = some (.slice ab7 bs7.length cb7) := by simp [World.cell?, d8]
      have d5 : w8.cell? ⟨w7.heap.size, 5, none⟩ = some (.slice au7 us7.length cu7) := by simp [World.cell?, d8]
      have d6 : w8.cell? ⟨w7.heap.size, 6, none⟩ = some (.int .i64 p7) := by simp [World.cell?, d8]
      have d7 : w8.cell? ⟨w7.heap.size, 7, none⟩ = some (.int .i64 (q7 : Nat)) := by simp [World.cell?, d8]
      have HW8 := Lib.hid hw8
      clear hw8
      by_cases hq7 : q7 = 0
      case neg =>
        have hq7' : ¬ (q7 : Int) = 0 := by omega
        have hr8 := (hbr8.block (w.heap.size + 1) (by omega)).trans ((hG.block (w.heap.size + 1) (by omega) (by omega)).trans hrR)
        obtain ⟨⟨o0, c0⟩, ⟨o1, c1⟩, ⟨o2, c2'⟩, ⟨o3, c3⟩, ⟨o4, c4⟩, ⟨o5, c5⟩, ⟨o6, c6⟩, ⟨o7, c7'⟩, f0, f1, f2, f3, f4, f5, f6, f7⟩ := cells_w8 hr8
        clear d0 d1 d2 d3 d4 d5 d6
        rw [← HW8.out] at d7 c0 c1 c2' c3 c4 c5 c6 c7' f0 f1 f2 f3 f4 f5 f6 f7
        go_wp2_with fail
        rw [HW8.out]
        refine got_post0 (fn := Tryz.f79) rfl w w8 _ _ _ _ q7 _ (by omega) (hbW.trans (hbr8.mono hbW.size)) _ _ _ _ _ _ _ _ hr8 _ rfl ?_
        intro Z hZ _ _
        have herr := M.rowG_err (ts := ts) (m := many) (d := j) (s := s) (b := part) (by rw [hks]; exact hok) hlt (by rw [hks]; exact HPT.out) (fun i b hi hb => by
          rw [hks] at hb
          obtain ⟨p, hp⟩ : ∃ p, L[i]? = some p := ⟨_, List.getElem?_eq_getElem (by omega)⟩
          rw [HP.out i b p hi hb hp]) (by rw [hty, HR.out]; exact hq7)
        rw [← HT.out, herr, hty, HR.out]
        exact gotR_none w q7 hZ
      subst hq7
      obtain ⟨w9, hw9⟩ : ∃ w9, w8.alloc (.cells #[.int .u64 (M.pt 0 N7), .int .u64 (M.pt 1 N7), .int .u64 (M.pt 2 N7), .int .u64 (M.pt 3 N7), .slice ab7 bs7.length cb7, .slice au7 us7.length cu7, .int .i64 p7] 33) = w9 := ⟨_, rfl⟩
      have hz9 : w9.heap.size = w8.heap.size + 1 := by rw [← hw9]; simp
      have hb9 : Below w8.heap.size w8 w9 := by rw [← hw9]; exact (Below.refl _ _).alloc (Nat.le_refl _) _
      have hbr9 : Below wr.heap.size wr w9 := hbr8.trans (hb9.mono hbr8.size)
      have d9 : w9.heap[w8.heap.size]? = some (.cells #[.int .u64 (M.pt 0 N7), .int .u64 (M.pt 1 N7), .int .u64 (M.pt 2 N7), .int .u64 (M.pt 3 N7), .slice ab7 bs7.length cb7, .slice au7 us7.length cu7, .int .i64 p7] 33 (0, 0)) := by rw [← hw9]; exact World.alloc_heap_new _ _
      have hs7 := hb7.size
      have hV9 : VaRow A.heap.size w9 L IT := HV.out.blocks hbr9.size (fun b _ hb => hbr9.block b hb)
      have hK9 : VlS w5.drew.heap.size w7.heap.size N7 bs7 us7 ab7 cb7 au7 cu7 w9 := hV7.agree (Agree.below (hb8.trans (hb9.mono (by omega))))
      obtain ⟨IT', w10, hrun, hV10, hgr⟩ := va_append hV9 (by omega) (by omega) 31 w8.heap.size 1 N7 bs7 us7 p7 ab7 cb7 au7 cu7 w5.drew.heap.size w7.heap.size (fun i x e => by
        rw [addr0_add]
        have : (#[.int .u64 (M.pt 0 N7), .int .u64 (M.pt 1 N7), .int .u64 (M.pt 2 N7), .int .u64 (M.pt 3 N7), .slice ab7 bs7.length cb7, .slice au7 us7.length cu7, .int .i64 p7] : Array Value)[i]? = some x := by simpa [c7] using e
        simp [World.cell?, d9]
        simpa using this) (by omega) (by omega) (fun b e => .inl (by have := (HV.out.own.lt b e).2; omega)) hK9
      obtain ⟨ia, ic', hIT⟩ := hV10.slice
      generalize (L ++ [(M.Va.mk N7 bs7 us7 p7, Value.slice ab7 bs7.length cb7, Value.slice au7 us7.length cu7)]).length = nl at hIT
      subst hIT
      have hvl : w2.heap.size < w9.heap.size := by omega
      have hvn : w2.heap.size ≠ w2.heap.size → False := fun h => h rfl
      have e8 := (hbr8.block w2.heap.size (by omega)).trans hrV
      have e10 := (hgr.block w2.heap.size (by omega) (fun e => by have := (HV.out.own.lt _ e.symm).1; omega)).trans ((hbr9.block w2.heap.size (by omega)).trans hrV)
      have e7 := (hbr7.block w2.heap.size (by omega)).trans hrV
      have i7 : w7.cell? ⟨w2.heap.size, 5, none⟩ = some IT := by simp [World.cell?, e7]
      have hl7 : w2.heap.size < w7.heap.size := by omega
      have i8 : w8.cell? ⟨w2.heap.size, 5, none⟩ = some IT := by simp [World.cell?, e8]
      have i10 : w10.cell? ⟨w2.heap.size, 5, none⟩ = some IT := by simp [World.cell?, e10]
      have j10 : w10.frozen? ⟨w2.heap.size, 5, none⟩ = false := by simp [World.frozen?, e10]
      have HRUN := Lib.hid hrun
      have HW9 := Lib.hid hw9
      clear hw9 d7
      rw [hz8, ← HW9.out, ← HW8.out, show ((0 : Nat) : Int) = 0 from rfl] at hrun
      rw [← HW8.out] at d0 d1 d2 d3 d4 d5 d6 i8
      go_wp2_with (at_builtin; refine wpList_append_runz rfl _ _ _ rfl _ _ _ rfl rfl hrun ?_)
      have hG9 := hG.below hbr9
      have hG10 := hG9.grow hgr (fun b e => .inl (HV.out.own.lt b e).1)
      have es := setCell_eq_setRow w10 w2.heap.size 5 _ 33 (0, 0) (.slice ia nl ic') e10
      have er := setRow_heap w10 w2.heap.size _ ((#[.int .u64 0, .int .u64 0, .int .u64 0, .int .u64 0, .slice none 0 0, IT, .int .i64 0] : Array Value).setIfInBounds 5 (.slice ia nl ic')) 33 (0, 0) e10
      have hg10 := hgr.size
      refine ⟨⟨j + 1, L ++ [(.mk N7 bs7 us7 p7, .slice ab7 bs7.length cb7, .slice au7 us7.length cu7)], .slice ia nl ic', by omega, by simp, ?_, ?_, by simp [hLl], ?_, ?_, ?_, ?_⟩, by simp [intOf]; omega⟩
      · rw [HN1.out]
        exact congrArg (Value.int .i64) (by have := HQ4.out; simp; omega)
      · rw [HN2.out]
      · refine hV10.blocks (by simp) (fun b hb _ => ?_)
        rw [es]
        exact setRow_other _ _ _ _ (by omega)
      · rw [es, er]
        rfl
      · exact hG10.set _ _ (.inr rfl)
      · intro i b p hi hb hp
        by_cases hij : i < j
        · rw [List.getElem?_append_left (by omega)] at hp
          exact HP.out i b p hij hb hp
        · obtain rfl : i = j := by omega
          rw [HPT.out] at hb
          cases hb
          rw [List.getElem?_append_right (by omega), hLl, Nat.sub_self] at hp
          cases hp
          rw [hty]
          exact HR.out
end Go.Proofs.YtgloapcfmlijlaaGreatDoor
