/- The reference's begin. The reference's Bytes, of one of several. The reference's Bytes, Put. The reference: roots of items. The reference: the root of a row. The reference: the root of a row of plain items. -/
import Derived.Test.YtaajkbclojmbeaaGreatDoorI17
import Derived.Test.YtaajkbclojmbeaaGreatDoorI09
import Derived.Test.YtaajkbclojmbeaaGreatDoorI14
import Derived.Test.YtaajkbclojmbeaaGreatDoorI02
import Derived.Test.YtaajkbclojmbeaaGreatDoorI15
namespace Go.Proofs.YtaajkbclojmbeaaGreatDoor
open Go Go.RowKit

theorem M.ins_few {k n : Int} {ts : List M.Ty} {d : Nat} (h : M.chkT d (.mk k n ts) = 0) : ts.length ≤ 4000 := by
  obtain ⟨_, h2, _, _⟩ := M.chkT_ok.1 h
  unfold M.formT at h2
  split at h2
  · simp at h2; simp [h2]
  · split at h2
    · simp at h2; simp [h2]
    · split at h2
      · simp at h2; omega
      · split at h2
        · simp at h2; simp [h2]
        · split at h2
          · simp at h2; omega
          · simp at h2; omega
/-- Is there a type for an item, by its place? -/
def M.place (k : Int) (m : Nat) (p : Int) (i : Nat) : Prop := (k = 7 ∧ i < m) ∨ (k = 8 ∧ 0 ≤ p ∧ p < m) ∨ (k ≠ 7 ∧ k ≠ 8 ∧ 0 < m)
/-- An item's type, by its place. -/
theorem zin_at {k n : Int} {ts : List M.Ty} {at_ : Option Addr} {ct : Nat} {p : Int} {i d : Nat} {w : World} (hT : LayT w w.heap.size ts (.slice at_ ts.length ct)) (hc : M.chkT d (.mk k n ts) = 0) (hp : M.place k ts.length p i) :
    ∃ (k' m' : Int) (ts' : List M.Ty) (at' : Option Addr) (ct' : Nat), M.inT k ts p i = .mk k' m' ts' ∧ M.chkT (d + 1) (.mk k' m' ts') = 0 ∧ .mk k' m' ts' ∈ ts ∧ LayT w w.heap.size ts' (.slice at' ts'.length ct') ∧
      ∀ W, Below w.heap.size w W → ∀ N ub uv, Calls Tryz.prog 116 #[tv k n (.slice at_ ts.length ct), vv N ub uv p, .int .i64 i] W fun e w' => e = .returned (tv k' m' (.slice at' ts'.length ct')) ∧ Below W.heap.size W w' := by
  obtain ⟨j, hj, hin, hor⟩ : ∃ j, j < ts.length ∧ M.inT k ts p i = ts[j]?.getD default ∧ ((k = 7 ∧ i = j) ∨ (k ≠ 7 ∧ k = 8 ∧ p = j) ∨ (k ≠ 7 ∧ k ≠ 8 ∧ j = 0)) := by
    rcases hp with ⟨h, hi⟩ | ⟨h, h0, h1⟩ | ⟨h7, h8, h0⟩
    · exact ⟨i, hi, by unfold M.inT; rw [if_pos h], .inl ⟨h, rfl⟩⟩
    · exact ⟨p.toNat, by omega, by unfold M.inT; rw [if_neg (by omega), if_pos h], .inr (.inl ⟨by omega, h, by omega⟩)⟩
    · exact ⟨0, h0, by unfold M.inT; rw [if_neg h7, if_neg h8], .inr (.inr ⟨h7, h8, rfl⟩)⟩
  obtain ⟨b, o, k', m', ts', at', ct', rfl, hbn, hti, e0, e1, e2, hT'⟩ := hT.at_ hj
  have hmem := List.mem_of_getElem? hti
  refine ⟨k', m', ts', at', ct', by rw [hin, hti]; rfl, M.chkTs_ok.1 (M.chkT_ok.1 hc).2.2.2 _ hmem, hmem, hT', fun W h N ub uv => ?_⟩
  exact tin_any k n ts.length ct b o N ub uv p i j k' m' at' ts'.length ct' W hj (Nat.lt_of_lt_of_le hbn h.size) (M.ins_few hc) hor ((h.cell (p := ⟨b, o + j * 3, none⟩) hbn).trans e0) ((h.cell (p := ⟨b, o + j * 3 + 1, none⟩) hbn).trans e1) ((h.cell (p := ⟨b, o + j * 3 + 2, none⟩) hbn).trans e2)
/-- The kinds of so many items. -/
def M.kds (k : Int) (ts : List M.Ty) (p : Int) (m : Nat) : List (Option Nat) := (List.range m).map fun i => M.kindOf (M.inT k ts p i)
theorem M.kds_succ (k : Int) (ts : List M.Ty) (p : Int) (m : Nat) : M.kds k ts p (m + 1) = M.kds k ts p m ++ [M.kindOf (M.inT k ts p m)] := by simp [M.kds, List.range_succ]
theorem M.hdLen_append : ∀ (a b : List (Option Nat)), M.hdLen (a ++ b) = M.hdLen a + M.hdLen b
  | [], b => by rw [List.nil_append, M.hdLen]; omega
  | some z :: a, b => by rw [List.cons_append, M.hdLen, M.hdLen, M.hdLen_append a b]; omega
  | none :: a, b => by rw [List.cons_append, M.hdLen, M.hdLen, M.hdLen_append a b]; omega
theorem M.hd_one {t : M.Ty} (hc : M.chkT 1 t = 0) : M.hdLen [M.kindOf t] ≤ 2251799813685248 := by
  unfold M.kindOf
  split
  · have := M.szT_most t 1 hc
    rw [M.hdLen, M.hdLen]
    omega
  · rw [M.hdLen, M.hdLen]; omega
theorem M.hd_fix {t : M.Ty} (hc : M.chkT 1 t = 0) : M.hdLen [M.kindOf t] = if M.fixedT t = true then M.sizeT t else 4 := by
  have hc0 := M.chkT_mono t 1 0 hc (by omega)
  have e : M.fixedT t = M.fixT t := by rw [M.fixedT, if_pos hc0]
  unfold M.kindOf
  rw [e]
  split
  · rename_i hf
    rw [M.hdLen, M.hdLen, M.sizeT, e, if_pos hf]
    omega
  · rw [M.hdLen, M.hdLen]

set_option maxRecDepth 100000 in
set_option maxHeartbeats 4000000 in
theorem zbegin_any (k n : Int) (ts : List M.Ty) (at_ : Option Addr) (ct : Nat) (N : Nat) (ub uv : Value) (p : Int) (many : Nat) (w : World) (hT : LayT w w.heap.size ts (.slice at_ ts.length ct)) (hc : M.chkT 0 (.mk k n ts) = 0) (hm : many ≤ 1000) (hp : ∀ i, i < many → M.place k ts.length p i) :
    Calls Tryz.prog 148 #[tv k n (.slice at_ ts.length ct), vv N ub uv p, .int .i64 many] w fun e w' => e = .returned (.int .i64 (M.hdLen (M.kds k ts p many) : Nat)) ∧ Below w.heap.size w w' := by
  obtain ⟨w0, hw0⟩ : ∃ w0, (w.alloc (.cells #[.int .i64 k, .int .i64 n, .slice at_ ts.length ct] 32)).alloc (.cells #[.int .u64 (M.pt 0 N), .int .u64 (M.pt 1 N), .int .u64 (M.pt 2 N), .int .u64 (M.pt 3 N), ub, uv, .int .i64 p] 38) = w0 := ⟨_, rfl⟩
  have hb0 : Below w.heap.size w w0 := by rw [← hw0]; exact two_boxes _ _ _
  have hz0 : w0.heap.size = w.heap.size + 2 := by rw [← hw0]; simp
  have hB0 : BoxT w0 w.heap.size k n (.slice at_ ts.length ct) := by rw [← hw0]; exact ⟨by simp [go_sem], by simp [go_sem], by simp [go_sem]⟩
  have hA0 : Cells7 w0 (w.heap.size + 1) 0 N ub uv p := by
    rw [← hw0]
    have := Cells7.new (w.alloc (.cells #[.int .i64 k, .int .i64 n, .slice at_ ts.length ct] 32)) N ub uv p 38
    rwa [World.size_alloc] at this
  have HW := Lib.hid hw0
  clear hw0
  go_enter Tryz.func148, Tryz.ntmps148
  go_wp2_with fail
  rw [HW.out]
  go_loopw [7, 8] (fun q i wr => ∃ (j s : Nat), j ≤ many ∧ i = .int .i64 j ∧ q = .int .i64 s ∧ M.hdLen (M.kds k ts p j) = s ∧ s ≤ j * 2251799813685248 ∧ Below w0.heap.size w0 wr)
    (fun _ i _ => many - (intOf i).toNat)
  case atStart => exact ⟨0, 0, by omega, rfl, rfl, rfl, by omega, Below.refl _ _⟩
  case round =>
    obtain ⟨j, s, hj, rfl, rfl, hs, hs2, LW⟩ := hrel
    have hbW : Below w.heap.size w wr := hb0.trans (LW.mono hb0.size)
    by_cases hlt : j < many
    · obtain ⟨k', m', ts', at', ct', hin, hc1, _, hT', HI⟩ := zin_at ((hT.from_ hbW).mono hbW.size) hc (hp j hlt)
      have HI := Lib.hid HI
      have H1 := Lib.hid (M.hd_one hc1)
      have HN := M.kds_succ k ts p j
      rw [hin] at HN
      have HF := M.hd_fix hc1
      have hsum : M.hdLen (M.kds k ts p (j + 1)) = s + M.hdLen [M.kindOf (.mk k' m' ts')] := by rw [HN, M.hdLen_append, hs]
      have HFX := Lib.hid (fun W (h : Below wr.heap.size wr W) => tfixed_any k' m' ts' at' ct' W ((hT'.from_ h).mono h.size))
      have HSZ := Lib.hid (fun W (h : Below wr.heap.size wr W) => tsize_any k' m' ts' at' ct' W ((hT'.from_ h).mono h.size))
      rw [HF] at hsum
      have HS := Lib.hid hsum
      have hsl : (if M.fixedT (.mk k' m' ts') = true then M.sizeT (.mk k' m' ts') else 4) ≤ 2251799813685248 := by rw [← HF]; exact H1.out
      generalize M.fixedT (.mk k' m' ts') = fx at *
      generalize M.sizeT (.mk k' m' ts') = sz at *
      clear hin HN HF hsum hc1 hT' H1
      have hB1 := hB0.from_ LW (by omega)
      have t0 := hB1.c0
      have t1 := hB1.c1
      have t2 := hB1.c2
      have hA1 := hA0.from_ LW (by omega)
      have a0 := hA1.c0
      have a1 := hA1.c1
      have a2 := hA1.c2
      have a3 := hA1.c3
      have a4 := hA1.c4
      have a5 := hA1.c5
      have a6 := hA1.c6
      simp only [Nat.zero_add] at a1 a2 a3 a4 a5 a6
      go_wp2_with fail
      refine (HI.out wr (Below.refl _ _) N ub uv).mono ?_
      rintro e w2 ⟨rfl, hb2⟩
      clear t0 t1 t2 a0 a1 a2 a3 a4 a5 a6
      obtain ⟨w3, hw3⟩ : ∃ w3, w2.alloc (.cells #[.int .i64 k', .int .i64 m', .slice at' ts'.length ct'] 32) = w3 := ⟨_, rfl⟩
      have hz3 : w3.heap.size = w2.heap.size + 1 := by rw [← hw3]; simp
      have hb3 : Below w2.heap.size w2 w3 := by rw [← hw3]; exact (Below.refl _ _).alloc (Nat.le_refl _) _
      have hB3 : BoxT w3 w2.heap.size k' m' (.slice at' ts'.length ct') := by rw [← hw3]; exact BoxT.new _ _ _ _ _
      have hbr3 : Below wr.heap.size wr w3 := Below.trans hb2 (hb3.mono hb2.size)
      have HW3 := Lib.hid hw3
      clear hw3
      go_wp2_with fail
      rw [HW3.out]
      refine (HFX.out _ hbr3).mono ?_
      rintro e w4 ⟨rfl, hb4⟩
      have hbr4 : Below wr.heap.size wr w4 := hbr3.trans (Below.mono hb4 hbr3.size)
      cases fx with
      | false =>
        go_wp2_with fail
        refine ⟨⟨j + 1, s + 4, by omega, by simp, by simp, ?_, ?_, LW.trans (hbr4.mono LW.size)⟩, by simp [intOf]; omega⟩
        · exact HS.out
        · omega
      | true =>
        have hB4 := hB3.from_ hb4 (by omega)
        have t0 := hB4.c0
        have t1 := hB4.c1
        have t2 := hB4.c2
        simp only [if_pos] at hsl
        go_wp2_with fail
        refine (HSZ.out _ hbr4).mono ?_
        rintro e w5 ⟨rfl, hb5⟩
        clear t0 t1 t2
        go_wp2_with fail
        refine ⟨⟨j + 1, s + sz, by omega, by simp, by simp, ?_, ?_, LW.trans ((hbr4.trans (Below.mono hb5 hbr4.size)).mono LW.size)⟩, by simp [intOf]; omega⟩
        · exact HS.out
        · omega
    · obtain rfl : j = many := by omega
      have hs' := Lib.hid hs
      go_wp2_with fail
      go_ret
      refine ⟨?_, hbW⟩
      rw [hs'.out]
      rfl
end Go.Proofs.YtaajkbclojmbeaaGreatDoor
namespace Go.Proofs.YtaajkbclojmbeaaGreatDoor
open Go Go.RowKit Go.Lib
attribute [local go_sem] Oper.semAt_some

theorem str_join (a b : List UInt8) : (({ data := a.toArray } : ByteArray) ++ { data := b.toArray }) = { data := (a ++ b).toArray } := by
  apply ByteArray.ext
  simp
/-- What the reference's Bytes must do, for values of such size. -/
def ZBytesC (z : Nat) : Prop := ∀ (k n : Int) (ts : List M.Ty) (at_ : Option Addr) (ct : Nat) (d : Nat) (N : Nat) (bs : List Bool) (us : List M.Va) (p : Int) (ab : Option Addr) (cb : Nat) (au : Option Addr) (cu : Nat) (w : World), SizeOf.sizeOf us ≤ z → LayT w w.heap.size ts (.slice at_ ts.length ct) → Vl w w.heap.size N bs us ab cb au cu → M.chkT d (.mk k n ts) = 0 → M.fitV (.mk k n ts) (.mk N bs us p) = 0 → M.cntV (.mk N bs us p) ≤ 800 →
    Calls Tryz.prog 118 #[tv k n (.slice at_ ts.length ct), vv N (.slice ab bs.length cb) (.slice au us.length cu) p] w fun e w' => e = .returned (.string ⟨(M.putV (.mk k n ts) (.mk N bs us p)).toArray⟩) ∧ Below w.heap.size w w'
set_option maxRecDepth 100000 in
set_option maxHeartbeats 4000000 in
theorem zunion_step (z : Nat) (ih : Hid (ZBytesC z)) (n : Int) (ts : List M.Ty) (at_ : Option Addr) (ct : Nat) (d : Nat) (N : Nat) (bs : List Bool) (us : List M.Va) (p : Int) (ab : Option Addr) (cb : Nat) (au : Option Addr) (cu : Nat) (w : World) (hs : SizeOf.sizeOf us ≤ z + 1) (hT : LayT w w.heap.size ts (.slice at_ ts.length ct)) (hV : Vl w w.heap.size N bs us ab cb au cu) (hc : M.chkT d (.mk 8 n ts) = 0) (hf : M.fitV (.mk 8 n ts) (.mk N bs us p) = 0) (h2 : M.cntV (.mk N bs us p) ≤ 800) :
    Calls Tryz.prog 118 #[tv 8 n (.slice at_ ts.length ct), vv N (.slice ab bs.length cb) (.slice au us.length cu) p] w fun e w' => e = .returned (.string ⟨(M.putV (.mk 8 n ts) (.mk N bs us p)).toArray⟩) ∧ Below w.heap.size w w' := by
  have hfp := M.fit_parts0 hf
  have ho := hfp.2.1
  rw [M.ofV_8] at ho
  simp only [Bool.and_eq_true, beq_iff_eq, decide_eq_true_eq] at ho
  obtain ⟨⟨⟨⟨rfl, hbl⟩, hul⟩, hp0⟩, hp1⟩ := ho
  obtain ⟨pk, rfl⟩ : ∃ pk : Nat, p = (pk : Int) := ⟨p.toNat, by omega⟩
  have hpk : pk < ts.length := by omega
  have htl : ts.length ≤ 8 := by
    have h3 := (M.chkT_ok.1 hc).2.1
    unfold M.formT at h3
    simp at h3
    omega
  obtain ⟨x, rfl⟩ : ∃ x, us = [x] := by
    cases us with
    | nil => simp at hul
    | cons x us => cases us with
      | nil => exact ⟨x, rfl⟩
      | cons y us => simp at hul
  obtain ⟨w0, hw0⟩ : ∃ w0, (w.alloc (.cells #[.int .i64 8, .int .i64 n, .slice at_ ts.length ct] 32)).alloc (.cells #[.int .u64 (M.pt 0 0), .int .u64 (M.pt 1 0), .int .u64 (M.pt 2 0), .int .u64 (M.pt 3 0), .slice ab bs.length cb, .slice au 1 cu, .int .i64 (pk : Int)] 38) = w0 := ⟨_, rfl⟩
  have hb0 : Below w.heap.size w w0 := by rw [← hw0]; exact two_boxesV _ _ _ _ _ _ _ _
  have hz0 : w0.heap.size = w.heap.size + 2 := by rw [← hw0]; simp
  have hB0 : BoxT w0 w.heap.size 8 n (.slice at_ ts.length ct) := by rw [← hw0]; exact ⟨by simp [go_sem], by simp [go_sem], by simp [go_sem]⟩
  have hA0 : Cells7 w0 (w.heap.size + 1) 0 0 (.slice ab bs.length cb) (.slice au 1 cu) (pk : Int) := by
    rw [← hw0]
    have := Cells7.new (w.alloc (.cells #[.int .i64 8, .int .i64 n, .slice at_ ts.length ct] 32)) 0 (.slice ab bs.length cb) (.slice au 1 cu) (pk : Int) 38
    rwa [World.size_alloc] at this
  have HW := Lib.hid hw0
  have HV0 := Lib.hid ((hV.from_ hb0).mono hb0.size)
  have HT0 := Lib.hid ((hT.from_ hb0).mono hb0.size)
  obtain ⟨b, o, k', n', us', ua, uc, rfl, hbn, hts, q0, q1, q2, hLt⟩ := HT0.out.at_ hpk
  obtain ⟨b2, o2, N2, bs2, vs2, p2, ab2, cb2, av2, cv2, rfl, hbn2, hxk, h7, hVl⟩ := HV0.out.v.at_ (i := 0) (by simp)
  obtain rfl : x = .mk N2 bs2 vs2 p2 := by simpa using hxk
  have hin : M.inT 8 ts (pk : Int) 0 = .mk k' n' us' := by simp [M.inT, hts]
  have hfx : M.fitV (.mk k' n' us') (.mk N2 bs2 vs2 p2) = 0 := by
    have := M.fitVs_at 8 ts (pk : Int) _ 0 0 _ hfp.2.2 (by rfl : [M.Va.mk N2 bs2 vs2 p2][0]? = some _)
    rw [Nat.zero_add, hin] at this
    exact this
  have hcx : M.chkT (d + 1) (.mk k' n' us') = 0 := M.chkTs_ok.1 (M.chkT_ok.1 hc).2.2.2 _ (List.mem_of_getElem? hts)
  rw [M.cntV, M.cntVs, M.cntVs] at h2
  have hsv : SizeOf.sizeOf vs2 ≤ z := by simp at hs; omega
  have HE : M.putV (.mk 8 n ts) (.mk 0 bs [.mk N2 bs2 vs2 p2] (pk : Int)) = [UInt8.ofNat pk] ++ M.putV (.mk k' n' us') (.mk N2 bs2 vs2 p2) := by
    rw [M.putV]
    simp [M.Ty.k, M.putVs, M.Ty.ins, hin]
  rw [HE]
  have HC : Hid (∀ X, Below w0.heap.size w0 X → Calls Tryz.prog 118 #[tv k' n' (.slice ua us'.length uc), vv N2 (.slice ab2 bs2.length cb2) (.slice av2 vs2.length cv2) p2] X fun e w' => e = .returned (.string ⟨(M.putV (.mk k' n' us') (.mk N2 bs2 vs2 p2)).toArray⟩) ∧ Below X.heap.size X w') := fun X h =>
    ih.out k' n' us' ua uc (d + 1) N2 bs2 vs2 p2 ab2 cb2 av2 cv2 X hsv ((hLt.from_ h).mono h.size) ((hVl.from_ h).mono h.size) hcx hfx (by omega)
  have HC7 := Lib.hid h7
  have hpl : (M.putV (.mk k' n' us') (.mk N2 bs2 vs2 p2)).length ≤ 300000 := by
    have := M.put_len _ (M.chk_small _ _ hcx) (.mk N2 bs2 vs2 p2)
    omega
  generalize M.putV (.mk k' n' us') (.mk N2 bs2 vs2 p2) = s at *
  have hpk8 : (pk : Int) < 8 := by omega
  have hw1 : w.heap.size + 1 < w0.heap.size := by omega
  have hw9 : w.heap.size < w0.heap.size := by omega
  have hwr : IntKind.u8.wrap (pk : Int) = pk := by
    simp only [IntKind.wrap, IntKind.bits, IntKind.signed]
    simp
    omega
  have mixed : Tryz.prog.follows .mixedOrders = true := by kernel_rfl
  have t0 := hB0.c0
  have t1 := hB0.c1
  have t2 := hB0.c2
  have a0 := hA0.c0
  have a1 := hA0.c1
  have a2 := hA0.c2
  have a3 := hA0.c3
  have a4 := hA0.c4
  have a5 := hA0.c5
  have a6 := hA0.c6
  simp only [Nat.zero_add] at a1 a2 a3 a4 a5 a6
  rw [← HW.out] at t0 t1 t2 a0 a1 a2 a3 a4 a5 a6
  clear hw0 hf hc HE hfp hfx hcx hsv hs h2 hin ih hp0 hp1 hbl hul hV hT hxk hz0
  go_enter Tryz.func118, Tryz.ntmps118
  go_wp2_with fail
  rw [HW.out]
  refine wp_region_held (S := fun Y => Below w0.heap.size w0 Y) mixed ?_
  have hS0 : (fun Y => Below w0.heap.size w0 Y) { w0 with drawn := w0.drawn + 1 } := Below.drew (Below.refl _ _)
  rw [show Array.replicate (Array.size _) false = #[false, false, false, false, false, false, false, false, false, false, false, false, false, false, false, false, false, false] from rfl, show Array.size (α := Oper) _ = 18 from rfl]
  refine wpAnyH_take (i := 0) (v := .pointer (some ⟨w.heap.size + 1, 6, none⟩)) rfl (by kernel_rfl) (by kernel_rfl) (by kernel_rfl) (fun _ _ _ h => h) (Or.inl ⟨by rfl, ?_⟩) hS0 ?_
  · intro Y hY
    skip
    go_simp
  simp only [Act.put, List.getElem_toArray, List.getElem_cons_zero, List.setIfInBounds_toArray, List.set_cons_zero, List.set_cons_succ]
  refine wpAnyH_take (i := 1) (v := .int .i64 (pk : Int)) rfl (by kernel_rfl) (by kernel_rfl) (by kernel_rfl) (fun _ _ _ h => h) (Or.inl ⟨by rfl, ?_⟩) hS0 ?_
  · intro Y hY
    have e6 := (hY.cell (p := ⟨w.heap.size + 1, 6, none⟩) hw1).trans hA0.c6
    go_simp
  simp only [Act.put, List.getElem_toArray, List.getElem_cons_succ, List.getElem_cons_zero, List.setIfInBounds_toArray, List.set_cons_zero, List.set_cons_succ]
  refine wpAnyH_take (i := 2) (v := .int .u8 (pk : Int)) rfl (by kernel_rfl) (by kernel_rfl) (by kernel_rfl) (fun _ _ _ h => h) (Or.inl ⟨by rfl, ?_⟩) hS0 ?_
  · intro Y hY
    skip
    go_simp
  simp only [Act.put, List.getElem_toArray, List.getElem_cons_succ, List.getElem_cons_zero, List.setIfInBounds_toArray, List.set_cons_zero, List.set_cons_succ]
  refine wpAnyH_take (i := 5) (v := .pointer (some ⟨w.heap.size, 2, none⟩)) rfl (by kernel_rfl) (by kernel_rfl) (by kernel_rfl) (fun _ _ _ h => h) (Or.inl ⟨by rfl, ?_⟩) hS0 ?_
  · intro Y hY
    skip
    go_simp
  simp only [Act.put, List.getElem_toArray, List.getElem_cons_succ, List.getElem_cons_zero, List.setIfInBounds_toArray, List.set_cons_zero, List.set_cons_succ]
  refine wpAnyH_take (i := 6) (v := .slice (some ⟨b, o, none⟩) ts.length ct) rfl (by kernel_rfl) (by kernel_rfl) (by kernel_rfl) (fun _ _ _ h => h) (Or.inl ⟨by rfl, ?_⟩) hS0 ?_
  · intro Y hY
    have e2 := (hY.cell (p := ⟨w.heap.size, 2, none⟩) hw9).trans hB0.c2
    go_simp
  simp only [Act.put, List.getElem_toArray, List.getElem_cons_succ, List.getElem_cons_zero, List.setIfInBounds_toArray, List.set_cons_zero, List.set_cons_succ]
  refine wpAnyH_take (i := 7) (v := .pointer (some ⟨w.heap.size + 1, 6, none⟩)) rfl (by kernel_rfl) (by kernel_rfl) (by kernel_rfl) (fun _ _ _ h => h) (Or.inl ⟨by rfl, ?_⟩) hS0 ?_
  · intro Y hY
    skip
    go_simp
  simp only [Act.put, List.getElem_toArray, List.getElem_cons_succ, List.getElem_cons_zero, List.setIfInBounds_toArray, List.set_cons_zero, List.set_cons_succ]
  refine wpAnyH_take (i := 8) (v := .int .i64 (pk : Int)) rfl (by kernel_rfl) (by kernel_rfl) (by kernel_rfl) (fun _ _ _ h => h) (Or.inl ⟨by rfl, ?_⟩) hS0 ?_
  · intro Y hY
    have e6 := (hY.cell (p := ⟨w.heap.size + 1, 6, none⟩) hw1).trans hA0.c6
    go_simp
  simp only [Act.put, List.getElem_toArray, List.getElem_cons_succ, List.getElem_cons_zero, List.setIfInBounds_toArray, List.set_cons_zero, List.set_cons_succ]
  refine wpAnyH_take (i := 9) (v := .pointer (some ⟨b, o + pk * 3, none⟩)) rfl (by kernel_rfl) (by kernel_rfl) (by kernel_rfl) (fun _ _ _ h => h) (Or.inl ⟨by rfl, ?_⟩) hS0 ?_
  · intro Y hY
    skip
    go_simp
  simp only [Act.put, List.getElem_toArray, List.getElem_cons_succ, List.getElem_cons_zero, List.setIfInBounds_toArray, List.set_cons_zero, List.set_cons_succ]
  refine wpAnyH_take (i := 10) (v := tv k' n' (.slice ua us'.length uc)) rfl (by kernel_rfl) (by kernel_rfl) (by kernel_rfl) (fun _ _ _ h => h) (Or.inl ⟨by rfl, ?_⟩) hS0 ?_
  · intro Y hY
    have f0 := (hY.cell (p := ⟨b, o + pk * 3, none⟩) hbn).trans q0; have f1 := (hY.cell (p := ⟨b, o + pk * 3 + 1, none⟩) hbn).trans q1; have f2 := (hY.cell (p := ⟨b, o + pk * 3 + 2, none⟩) hbn).trans q2
    go_simp
  simp only [Act.put, List.getElem_toArray, List.getElem_cons_succ, List.getElem_cons_zero, List.setIfInBounds_toArray, List.set_cons_zero, List.set_cons_succ]
  refine wpAnyH_take (i := 11) (v := .pointer (some ⟨w.heap.size + 1, 5, none⟩)) rfl (by kernel_rfl) (by kernel_rfl) (by kernel_rfl) (fun _ _ _ h => h) (Or.inl ⟨by rfl, ?_⟩) hS0 ?_
  · intro Y hY
    skip
    go_simp
  simp only [Act.put, List.getElem_toArray, List.getElem_cons_succ, List.getElem_cons_zero, List.setIfInBounds_toArray, List.set_cons_zero, List.set_cons_succ]
  refine wpAnyH_take (i := 12) (v := .slice (some ⟨b2, o2, none⟩) 1 cu) rfl (by kernel_rfl) (by kernel_rfl) (by kernel_rfl) (fun _ _ _ h => h) (Or.inl ⟨by rfl, ?_⟩) hS0 ?_
  · intro Y hY
    have e5 := (hY.cell (p := ⟨w.heap.size + 1, 5, none⟩) hw1).trans hA0.c5
    go_simp
  simp only [Act.put, List.getElem_toArray, List.getElem_cons_succ, List.getElem_cons_zero, List.setIfInBounds_toArray, List.set_cons_zero, List.set_cons_succ]
  refine wpAnyH_take (i := 13) (v := .pointer (some ⟨b2, o2, none⟩)) rfl (by kernel_rfl) (by kernel_rfl) (by kernel_rfl) (fun _ _ _ h => h) (Or.inl ⟨by rfl, ?_⟩) hS0 ?_
  · intro Y hY
    skip
    go_simp
  simp only [Act.put, List.getElem_toArray, List.getElem_cons_succ, List.getElem_cons_zero, List.setIfInBounds_toArray, List.set_cons_zero, List.set_cons_succ]
  refine wpAnyH_take (i := 14) (v := vv N2 (.slice ab2 bs2.length cb2) (.slice av2 vs2.length cv2) p2) rfl (by kernel_rfl) (by kernel_rfl) (by kernel_rfl) (fun _ _ _ h => h) (Or.inl ⟨by rfl, ?_⟩) hS0 ?_
  · intro Y hY
    have h7Y := HC7.out.from_ hY hbn2; have e0 := h7Y.c0; have e1 := h7Y.c1; have e2 := h7Y.c2; have e3 := h7Y.c3; have e4 := h7Y.c4; have e5 := h7Y.c5; have e6 := h7Y.c6; simp only [Nat.zero_mul, Nat.add_zero] at e0 e1 e2 e3 e4 e5 e6
    go_simp
  simp only [Act.put, List.getElem_toArray, List.getElem_cons_succ, List.getElem_cons_zero, List.setIfInBounds_toArray, List.set_cons_zero, List.set_cons_succ]
  obtain ⟨i0, hi, hz0', hz1, hz2⟩ := info_parts Tryz.ofU8
  have hu8 : Hid ((pk : Int) = ((UInt8.ofNat pk).toNat : Int)) := by
    show (pk : Int) = ((UInt8.ofNat pk).toNat : Int)
    simp
    omega
  have HCV : Hid (∀ (g : Nat) (Y : World), Y.cell? ⟨g, 0, none⟩ = some (.int .u8 (pk : Int)) → (convert 41 9 (.slice (some ⟨g, 0, none⟩) 1 1)).run Tryz.prog Y = .ok (.string ⟨[UInt8.ofNat pk].toArray⟩) Y) := fun g Y h =>
    run_convert_bytes_back Y 41 9 5 ⟨g, 0, none⟩ 1 [UInt8.ofNat pk] Tryz.underlying41 Tryz.underlying5 Tryz.underlying9 (fun j hj => by
      obtain rfl : j = 0 := by simpa using hj
      rw [show (⟨g, 0, none⟩ : Addr).add 0 = ⟨g, 0, none⟩ from rfl, h, hu8.out]
      rfl)
  have HJ : Hid (∀ c : Nat, c = 0 → (({ data := [UInt8.ofNat pk].toArray } : ByteArray) ++ { data := s.toArray }) = { data := ([UInt8.ofNat pk] ++ s).toArray }) := fun _ _ => str_join _ _
  refine wpAnyH_ready (rs := [3, 15]) (by kernel_rfl) (by simp) ?_
  refine AllReadyH.cons rfl (fun K hK => ?rA) (AllReadyH.cons rfl (fun K hK => ?rB) AllReadyH.nil)
  case' rA =>
    rw [if_pos (by rfl)]
    refine wp_build_one 41 5 (.tmp 45) (.int .u8 (pk : Int)) (.int .u8 0) i0 rfl rfl rfl Tryz.underlying41 hi hz0' hz1 rfl ?_
    obtain ⟨X1, hWX1⟩ : ∃ X1, World.alloc { w0 with drawn := w0.drawn + 1 } (.cells #[.int .u8 (pk : Int)] 5) = X1 := ⟨_, rfl⟩
    have hS1 : Below w0.heap.size w0 X1 := by rw [← hWX1]; exact Below.alloc hS0 (Below.size hS0) _
    have hnX1 : X1.cell? ⟨World.heap { w0 with drawn := w0.drawn + 1 } |>.size, 0, none⟩ = some (.int .u8 (pk : Int)) := by
      have : X1.heap[(World.heap { w0 with drawn := w0.drawn + 1 }).size]? = some (.cells #[.int .u8 (pk : Int)] 5 (0, 0)) := by rw [← hWX1]; exact World.alloc_heap_new _ _
      simp [World.cell?, this]
    have hlX1 : (World.heap { w0 with drawn := w0.drawn + 1 }).size < X1.heap.size := by rw [← hWX1]; simp
    rw [hWX1]
    refine hK.out _ _ hS1 (fun _ => ?_)
    clear hK K hWX1
    simp only [Act.put, List.getElem_toArray, List.getElem_cons_succ, List.getElem_cons_zero, List.setIfInBounds_toArray, List.set_cons_zero, List.set_cons_succ]
    refine wpAnyH_ready (rs := [4, 15]) (by kernel_rfl) (by simp) ?_
    refine AllReadyH.cons rfl (fun K hK => ?rA1) (AllReadyH.cons rfl (fun K hK => ?rA2) AllReadyH.nil)
    case' rA1 =>
      have hcv := HCV.out w0.heap.size X1 (hnX1)
      go_simp
      refine hK.out _ _ hS1 (fun _ => ?_)
      clear hK K hcv
      simp only [List.setIfInBounds_toArray, List.set_cons_zero, List.set_cons_succ]
      refine wpAnyH_ready (rs := [15]) (by kernel_rfl) (by simp) ?_
      refine AllReadyH.cons rfl (fun K hK => ?_) AllReadyH.nil
      go_simp
      refine (HC.out _ hS1).mono ?_
      rintro e X9 ⟨rfl, hbX9⟩
      have hS9 : Below w0.heap.size w0 X9 := Below.trans hS1 (Below.mono hbX9 (Below.size hS1))
      try go_wp2_with fail
      refine hK.out _ _ hS9 (fun _ => ?_)
      clear hK K
      simp only [List.setIfInBounds_toArray, List.set_cons_zero, List.set_cons_succ]
    case' rA2 =>
      go_simp
      refine (HC.out _ hS1).mono ?_
      rintro e X9 ⟨rfl, hbX9⟩
      have hS9 : Below w0.heap.size w0 X9 := Below.trans hS1 (Below.mono hbX9 (Below.size hS1))
      try go_wp2_with fail
      refine hK.out _ _ hS9 (fun _ => ?_)
      clear hK K
      simp only [List.setIfInBounds_toArray, List.set_cons_zero, List.set_cons_succ]
      refine wpAnyH_ready (rs := [4]) (by kernel_rfl) (by simp) ?_
      refine AllReadyH.cons rfl (fun K hK => ?_) AllReadyH.nil
      have hcv := HCV.out w0.heap.size X9 ((hbX9.cell (p := ⟨_, 0, none⟩) hlX1).trans hnX1)
      go_simp
      refine hK.out _ _ hS9 (fun _ => ?_)
      clear hK K hcv
      simp only [List.setIfInBounds_toArray, List.set_cons_zero, List.set_cons_succ]
  case' rB =>
    go_simp
    refine (HC.out _ hS0).mono ?_
    rintro e X1 ⟨rfl, hbX1⟩
    have hS1 : Below w0.heap.size w0 X1 := Below.trans hS0 (Below.mono hbX1 (Below.size hS0))
    try go_wp2_with fail
    refine hK.out _ _ hS1 (fun _ => ?_)
    clear hK K
    simp only [List.setIfInBounds_toArray, List.set_cons_zero, List.set_cons_succ]
    refine wpAnyH_ready (rs := [3]) (by kernel_rfl) (by simp) ?_
    refine AllReadyH.cons rfl (fun K hK => ?_) AllReadyH.nil
    rw [if_pos (by rfl)]
    refine wp_build_one 41 5 (.tmp 45) (.int .u8 (pk : Int)) (.int .u8 0) i0 rfl rfl rfl Tryz.underlying41 hi hz0' hz1 rfl ?_
    obtain ⟨X9, hWX9⟩ : ∃ X9, World.alloc X1 (.cells #[.int .u8 (pk : Int)] 5) = X9 := ⟨_, rfl⟩
    have hS9 : Below w0.heap.size w0 X9 := by rw [← hWX9]; exact Below.alloc hS1 (Below.size hS1) _
    have hnX9 : X9.cell? ⟨World.heap X1 |>.size, 0, none⟩ = some (.int .u8 (pk : Int)) := by
      have : X9.heap[(World.heap X1).size]? = some (.cells #[.int .u8 (pk : Int)] 5 (0, 0)) := by rw [← hWX9]; exact World.alloc_heap_new _ _
      simp [World.cell?, this]
    have hlX9 : (World.heap X1).size < X9.heap.size := by rw [← hWX9]; simp
    rw [hWX9]
    refine hK.out _ _ hS9 (fun _ => ?_)
    clear hK K hWX9
    simp only [Act.put, List.getElem_toArray, List.getElem_cons_succ, List.getElem_cons_zero, List.setIfInBounds_toArray, List.set_cons_zero, List.set_cons_succ]
    refine wpAnyH_ready (rs := [4]) (by kernel_rfl) (by simp) ?_
    refine AllReadyH.cons rfl (fun K hK => ?_) AllReadyH.nil
    have hcv := HCV.out X1.heap.size X9 (hnX9)
    go_simp
    refine hK.out _ _ hS9 (fun _ => ?_)
    clear hK K hcv
    simp only [List.setIfInBounds_toArray, List.set_cons_zero, List.set_cons_succ]
  all_goals
    refine wpAnyH_take (i := 16) (v := .string ⟨([UInt8.ofNat pk] ++ s).toArray⟩) rfl (by kernel_rfl) (by kernel_rfl) (by kernel_rfl) (fun _ _ _ h => h) (Or.inl ⟨by rfl, ?_⟩) hS9 ?_
    · intro Y hY
      skip
      go_simp
      try simp [str_join]
      try omega
    simp only [Act.put, List.getElem_toArray, List.getElem_cons_succ, List.getElem_cons_zero, List.setIfInBounds_toArray, List.set_cons_zero, List.set_cons_succ]
    refine wpAnyH_take (i := 17) (v := .string ⟨([UInt8.ofNat pk] ++ s).toArray⟩) rfl (by kernel_rfl) (by kernel_rfl) (by kernel_rfl) (fun _ _ _ h => h) (Or.inl ⟨by rfl, ?_⟩) hS9 ?_
    · intro Y hY
      skip
      go_simp
    simp only [Act.put, List.getElem_toArray, List.getElem_cons_succ, List.getElem_cons_zero, List.setIfInBounds_toArray, List.set_cons_zero, List.set_cons_succ]
    refine wpAnyH_done (by kernel_rfl) ?_ _
    go_wp2_with fail
    go_ret
    exact ⟨rfl, hb0.trans (Below.mono hS9 hb0.size)⟩
end Go.Proofs.YtaajkbclojmbeaaGreatDoor
namespace Go.Proofs.YtaajkbclojmbeaaGreatDoor
open Go Go.RowKit

theorem str_add (a b : List UInt8) : (({ data := a.toArray } : ByteArray) ++ { data := b.toArray }) = { data := (a ++ b).toArray } := by
  apply ByteArray.ext
  simp
theorem M.form_row {k n : Int} {m : Nat} (h : M.formT k n m = true) (hk : k = 3 ∨ k = 4 ∨ k = 7) : 0 < m := by
  unfold M.formT at h
  rcases hk with rfl | rfl | rfl
  · simp at h; omega
  · simp at h; omega
  · simp at h; omega
theorem M.items_place {k n : Int} {ts : List M.Ty} {N : Nat} {bs : List Bool} {us : List M.Va} {p : Int} {d : Nat} (hc : M.chkT d (.mk k n ts) = 0) (hf : M.fitV (.mk k n ts) (.mk N bs us p) = 0) (hk : k = 3 ∨ k = 4 ∨ k = 7) : ∀ i, i < us.length → M.place k ts.length p i := fun i hi => by
  obtain ⟨_, h2, _⟩ := M.fit_parts0 hf
  obtain ⟨_, hform, _, _⟩ := M.chkT_ok.1 hc
  have := M.form_row hform hk
  rcases hk with rfl | rfl | rfl
  · exact .inr (.inr ⟨by omega, by omega, this⟩)
  · exact .inr (.inr ⟨by omega, by omega, this⟩)
  · rw [M.ofV_7] at h2
    simp at h2
    exact .inl ⟨rfl, by omega⟩
theorem M.place_chk {k n : Int} {ts : List M.Ty} {p : Int} {d i : Nat} (hc : M.chkT d (.mk k n ts) = 0) (hp : M.place k ts.length p i) : M.chkT (d + 1) (M.inT k ts p i) = 0 := by
  have key : ∀ j, j < ts.length → M.chkT (d + 1) (ts[j]?.getD default) = 0 := fun j hj => by
    rw [List.getElem?_eq_getElem hj]
    exact M.chkTs_ok.1 (M.chkT_ok.1 hc).2.2.2 _ (List.getElem_mem hj)
  rcases hp with ⟨h, hi⟩ | ⟨h, h0, h1⟩ | ⟨h7, h8, h0⟩
  · unfold M.inT; rw [if_pos h]; exact key i hi
  · unfold M.inT; rw [if_neg (by omega), if_pos h]; exact key _ (by omega)
  · unfold M.inT; rw [if_neg h7, if_neg h8]; exact key 0 h0

theorem Tryz.infoBool : (Tryz.prog.info? 4).map (fun i => (i.zero, i.size, i.bytes)) = some (some (.bool false), 1, 1) := by kernel_rfl
theorem own_bools {w : World} {B : Nat} {v : Value} {l : List Bool} (h : w.ownsRow B 4 1 v l.length (l.map Value.bool)) (hn : 0 < l.length) :
    ∃ g cap, v = .slice (some ⟨g, 0, none⟩) l.length cap ∧ LayB w w.heap.size l (.slice (some ⟨g, 0, none⟩) l.length cap) := by
  rcases id h.2 with ⟨_, h0⟩ | ⟨g, cap, cur, rfl, hb, hg, hnc, hcm, hcs, htake⟩
  · omega
  · refine ⟨g, cap, rfl, .row (Array.getElem?_eq_some_iff.1 hg).1 hnc hcm fun i x e => ?_⟩
    have hi := (List.getElem?_eq_some_iff.1 e).1
    rw [Nat.zero_add, h.cellAt i (by omega), List.getElem?_map, e]
    rfl
theorem LayB.cells {w : World} {n b o cap : Nat} {bs : List Bool} (h : LayB w n bs (.slice (some ⟨b, o, none⟩) bs.length cap)) : ∀ (j : Nat) (u : Value), (bs.map Value.bool)[j]? = some u → w.cell? ((⟨b, o, none⟩ : Addr).add j) = some u := by
  intro j u hj
  rw [List.getElem?_map] at hj
  cases hx : bs[j]? with
  | none => rw [hx] at hj; cases hj
  | some x =>
    rw [hx] at hj
    cases hj
    have hl := (List.getElem?_eq_some_iff.1 hx).1
    obtain ⟨b', o', x', e, _, hx', hc⟩ := h.at_ hl
    cases e
    rw [hx] at hx'
    cases hx'
    have e : (⟨b, o, none⟩ : Addr).add j = ⟨b, o + j, none⟩ := by unfold Addr.add; split <;> simp_all
    rw [e]
    exact hc

set_option maxRecDepth 100000 in
set_option maxHeartbeats 16000000 in
theorem zbytes_n (z : Nat) : ∀ (k n : Int) (ts : List M.Ty) (at_ : Option Addr) (ct : Nat) (d : Nat) (N : Nat) (bs : List Bool) (us : List M.Va) (p : Int) (ab : Option Addr) (cb : Nat) (au : Option Addr) (cu : Nat) (w : World), SizeOf.sizeOf us ≤ z → LayT w w.heap.size ts (.slice at_ ts.length ct) → Vl w w.heap.size N bs us ab cb au cu → M.chkT d (.mk k n ts) = 0 → M.fitV (.mk k n ts) (.mk N bs us p) = 0 → M.cntV (.mk N bs us p) ≤ 800 →
    Calls Tryz.prog 118 #[tv k n (.slice at_ ts.length ct), vv N (.slice ab bs.length cb) (.slice au us.length cu) p] w fun e w' => e = .returned (.string ⟨(M.putV (.mk k n ts) (.mk N bs us p)).toArray⟩) ∧ Below w.heap.size w w' := by
  induction z with
  | zero => intro k n ts at_ ct d N bs us p ab cb au cu w h; cases us <;> simp at h
  | succ z ih =>
    intro k n ts at_ ct d N bs us p ab cb au cu w hsz hT hV hc hf hcnt
    have hc0 := M.chkT_mono _ _ 0 hc (Nat.zero_le _)
    obtain ⟨w0, hw0⟩ : ∃ w0, (w.alloc (.cells #[.int .i64 k, .int .i64 n, .slice at_ ts.length ct] 32)).alloc (.cells #[.int .u64 (M.pt 0 N), .int .u64 (M.pt 1 N), .int .u64 (M.pt 2 N), .int .u64 (M.pt 3 N), .slice ab bs.length cb, .slice au us.length cu, .int .i64 p] 38) = w0 := ⟨_, rfl⟩
    have hb0 : Below w.heap.size w w0 := by rw [← hw0]; exact two_boxes _ _ _
    have hz0 : w0.heap.size = w.heap.size + 2 := by rw [← hw0]; simp
    have hB0 : BoxT w0 w.heap.size k n (.slice at_ ts.length ct) := by rw [← hw0]; exact ⟨by simp [go_sem], by simp [go_sem], by simp [go_sem]⟩
    have hA0 : Cells7 w0 (w.heap.size + 1) 0 N (.slice ab bs.length cb) (.slice au us.length cu) p := by
      rw [← hw0]
      have := Cells7.new (w.alloc (.cells #[.int .i64 k, .int .i64 n, .slice at_ ts.length ct] 32)) N (.slice ab bs.length cb) (.slice au us.length cu) p 38
      rwa [World.size_alloc] at this
    have HW := Lib.hid hw0
    by_cases hk : k = 3 ∨ k = 4 ∨ k = 7
    · have HPL := Lib.hid (M.items_place hc hf hk)
      have HF := Lib.hid hf
      have hfv := (M.fit_parts0 hf).2.2
      have hcu : M.cntVs us ≤ 800 := by rw [M.cntV] at hcnt; omega
      have hul : us.length ≤ 800 := Nat.le_trans (M.length_cntV us) hcu
      obtain ⟨off, hoff⟩ : ∃ off, M.hdLen (M.kds k ts p us.length) = off := ⟨_, rfl⟩
      have hsum := M.puts_len k ts (M.chk_small _ d hc).2 p us 0
      have hoff2 : off ≤ 32000 := by
        have := M.hd_sum k ts p us 0 hfv hV.v.inVs fun j _ hj => ⟨d + 1, M.place_chk hc (HPL.out j (by omega))⟩
        rw [M.putVs_fst] at this
        simp only [Nat.zero_add] at this
        have e : M.hdLen ((List.range us.length).map fun j => M.kindOf (M.inT k ts p j)) = off := hoff
        rw [e] at this
        omega
      have HE := Lib.hid (M.row_eq (n := n) (num := N) (bits := bs) hk (items := us) (pick := p) hoff)
      have HBG := zbegin_any k n ts at_ ct N (.slice ab bs.length cb) (.slice au us.length cu) p us.length w0 ((hT.from_ hb0).mono hb0.size) hc0 (by omega) HPL.out
      rw [hoff] at HBG
      have HBG := Lib.hid HBG
      have b1 : (k == 1) = false := by simp; omega
      have b2 : (k == 2) = false := by simp; omega
      have b5 : (k == 5) = false := by simp; omega
      have b6 : (k == 6) = false := by simp; omega
      have b8 : (k == 8) = false := by simp; omega
      have HK := Lib.hid hk
      have t0 := hB0.c0
      have t1 := hB0.c1
      have t2 := hB0.c2
      have a0 := hA0.c0
      have a1 := hA0.c1
      have a2 := hA0.c2
      have a3 := hA0.c3
      have a4 := hA0.c4
      have a5 := hA0.c5
      have a6 := hA0.c6
      simp only [Nat.zero_add] at a1 a2 a3 a4 a5 a6
      rw [← HW.out] at t0 t1 t2 a0 a1 a2 a3 a4 a5 a6
      clear hw0 hcnt hf hc0 hk
      go_enter Tryz.func118, Tryz.ntmps118
      go_wp2_with fail
      rw [HW.out]
      refine HBG.out.mono ?_
      rintro e w1 ⟨rfl, hb1⟩
      clear t0 t1 t2 a0 a1 a2 a3 a4 a5 a6 HBG
      have hB1 := hB0.from_ hb1 (by omega)
      have hA1 := hA0.from_ hb1 (by omega)
      have hb01 : Below w.heap.size w w1 := hb0.trans (Below.mono hb1 hb0.size)
      have hz1 : w.heap.size + 2 ≤ w1.heap.size := by have := Below.size hb1; omega
      clear hb1
      go_wp2_with fail
      go_loopw [6, 7, 9] (fun ff tt i wr => ∃ (j : Nat) (f t : List UInt8), j ≤ us.length ∧ i = .int .i64 j ∧ ff = .string ⟨f.toArray⟩ ∧ tt = .string ⟨t.toArray⟩ ∧ M.rowH off (M.putVs k ts p 0 (us.take j)) = f ∧ M.rowL (M.putVs k ts p 0 (us.take j)) = t ∧ Below w1.heap.size w1 wr)
        (fun _ _ i _ => us.length - (intOf i).toNat)
      case atStart => exact ⟨0, [], [], by omega, rfl, rfl, rfl, by rw [List.take_zero, M.putVs, M.rowH], by rw [List.take_zero, M.putVs, M.rowL], Below.refl _ _⟩
      case round =>
        obtain ⟨j, f, t, hj, rfl, rfl, rfl, hff, htt, LW⟩ := hrel
        have hbW : Below w.heap.size w wr := hb01.trans (LW.mono hb01.size)
        have hB2 := hB1.from_ LW (by omega)
        have hA2 := hA1.from_ LW (by omega)
        have t0 := hB2.c0
        have t1 := hB2.c1
        have t2 := hB2.c2
        have a0 := hA2.c0
        have a1 := hA2.c1
        have a2 := hA2.c2
        have a3 := hA2.c3
        have a4 := hA2.c4
        have a5 := hA2.c5
        have a6 := hA2.c6
        simp only [Nat.zero_add] at a1 a2 a3 a4 a5 a6
        by_cases hlt : j < us.length
        · obtain ⟨bv, ov, N', bs', us', p', ab', cb', av', cv', rfl, hbv0, hxk, hE, hV'⟩ := (hV.from_ hbW).v.at_ hlt
          obtain ⟨k', m', ts', at', ct', hin, hc1, _, hT', HI⟩ := zin_at ((hT.from_ hbW).mono hbW.size) hc (HPL.out j hlt)
          have hfj := M.fitVs_at k ts p us 0 j _ hfv hxk
          rw [Nat.zero_add, hin] at hfj
          have hsx := size_va hxk
          rw [M.Va.mk.sizeOf_spec] at hsx
          have hcj := M.cntV_part (List.mem_of_getElem? hxk)
          have hj9 : (j : Int) < 9223372036854775807 := by omega
          have hbv : bv < wr.heap.size := by have := hbW.size; omega
          have IH := Lib.hid (fun W (h : Below wr.heap.size wr W) => ih k' m' ts' at' ct' (d + 1) N' bs' us' p' ab' cb' av' cv' W (by omega) ((hT'.from_ h).mono h.size) ((hV'.from_ (h.mono hbW.size)).mono (Nat.le_trans hbW.size h.size)) hc1 hfj (by omega))
          have HI := Lib.hid HI
          have HFX := Lib.hid (fun W (h : Below wr.heap.size wr W) => tfixed_any k' m' ts' at' ct' W ((hT'.from_ h).mono h.size))
          have HN := M.putVs_next k ts p hxk
          rw [hin] at HN
          have hkd : M.kindOf (.mk k' m' ts') = if M.fixedT (.mk k' m' ts') = true then some (M.szT (.mk k' m' ts')) else none := by
            rw [M.fixedT, if_pos (M.chkT_mono _ (d + 1) 0 hc1 (by omega))]; rfl
          have htl : t.length ≤ 32000 := by
            have h1 := M.row_sum (M.putVs k ts p 0 (us.take j)) off
            have h2 := M.puts_len k ts (M.chk_small _ d hc).2 p (us.take j) 0
            have h3 := M.cntVs_take us j
            rw [htt] at h1
            omega
          have hfl : f.length ≤ 32000 := by
            have h1 := M.row_sum (M.putVs k ts p 0 (us.take j)) off
            have h2 := M.puts_len k ts (M.chk_small _ d hc).2 p (us.take j) 0
            have h3 := M.cntVs_take us j
            rw [hff] at h1
            omega
          have hql := M.put_len (.mk k' m' ts') (M.chk_small _ _ hc1) (.mk N' bs' us' p')
          have hlen4 := M.le_length 4 (off + t.length)
          have HOF := Lib.hid (fun W => zoffset_any (off + t.length) W (by omega))
          simp only [Int.natCast_add] at HOF
          generalize M.putV (.mk k' m' ts') (.mk N' bs' us' p') = q at *
          generalize M.fixedT (.mk k' m' ts') = fx at *
          generalize M.szT (.mk k' m' ts') = sz at *
          have HN := Lib.hid HN
          have HKD := Lib.hid hkd
          have HFF := Lib.hid hff
          have HTT := Lib.hid htt
          have hql2 : q.length ≤ 32000 := by omega
          clear hql
          clear hff htt hkd hfj hsx hcj hin hc1 hT' hV' hxk ih hsum hoff hfv hcu hT hV hc
          go_wp2_with fail
          refine (HI.out wr (Below.refl _ _) N (.slice ab bs.length cb) (.slice (some ⟨bv, ov, none⟩) us.length cu) ).mono ?_
          rintro e w2 ⟨rfl, hb2⟩
          clear t0 t1 t2 a0 a1 a2 a3 a4 a5 a6
          obtain ⟨w3, hw3⟩ : ∃ w3, w2.alloc (.cells #[.int .i64 k', .int .i64 m', .slice at' ts'.length ct'] 32) = w3 := ⟨_, rfl⟩
          have hz3 : w3.heap.size = w2.heap.size + 1 := by rw [← hw3]; simp
          have hb3 : Below w2.heap.size w2 w3 := by rw [← hw3]; exact (Below.refl _ _).alloc (Nat.le_refl _) _
          have hB3 : BoxT w3 w2.heap.size k' m' (.slice at' ts'.length ct') := by rw [← hw3]; exact BoxT.new _ _ _ _ _
          have hbr3 : Below wr.heap.size wr w3 := Below.trans hb2 (hb3.mono hb2.size)
          have hs23 := hbr3.size
          have hs12 := LW.size
          have hA3 := hA2.from_ hbr3 (by omega)
          have hE3 := hE.from_ hbr3 hbv
          have HW3 := Lib.hid hw3
          clear hw3
          go_wp2_with fail
          rw [HW3.out]
          have hbv3 : bv < w3.heap.size := by omega
          have hs3 : w.heap.size + 1 < w3.heap.size := by omega
          have hs2 : w2.heap.size < w3.heap.size := by omega
          have mixed : Tryz.prog.follows .mixedOrders = true := by kernel_rfl
          refine region_quiet (C := fun W => Below w3.heap.size w3 W) mixed (by kernel_rfl) (Below.drew (Below.refl _ _)) ?_
          refine quiet_val (tv k' m' (.slice at' ts'.length ct')) (by rfl) (fun W hC => by have z := hB3.from_ hC hs2; have c0 := z.c0; have c1 := z.c1; have c2 := z.c2; go_simp) ?_
          simp only [Act.put, List.setIfInBounds_toArray, List.set_cons_zero, List.set_cons_succ]
          refine quiet_val (.pointer (some ⟨w.heap.size + 1, 5, none⟩)) (by rfl) (fun W hC => by go_simp) ?_
          simp only [Act.put, List.setIfInBounds_toArray, List.set_cons_zero, List.set_cons_succ]
          refine quiet_val (.slice (some ⟨bv, ov, none⟩) us.length cu) (by rfl) (fun W hC => by have z := hA3.from_ hC hs3; have c5 := z.c5; simp only [Nat.zero_add] at c5; go_simp) ?_
          simp only [Act.put, List.setIfInBounds_toArray, List.set_cons_zero, List.set_cons_succ]
          refine quiet_val (.int .i64 j) (by rfl) (fun W hC => by go_simp) ?_
          simp only [Act.put, List.setIfInBounds_toArray, List.set_cons_zero, List.set_cons_succ]
          refine quiet_val (.pointer (some ⟨bv, ov + j * 7, none⟩)) (by rfl) (fun W hC => by go_simp) ?_
          simp only [Act.put, List.setIfInBounds_toArray, List.set_cons_zero, List.set_cons_succ]
          refine quiet_val (vv N' (.slice ab' bs'.length cb') (.slice av' us'.length cv') p') (by rfl) (fun W hC => by have z := hE3.from_ hC hbv3; have c0 := z.c0; have c1 := z.c1; have c2 := z.c2; have c3 := z.c3; have c4 := z.c4; have c5 := z.c5; have c6 := z.c6; go_simp) ?_
          simp only [Act.put, List.setIfInBounds_toArray, List.set_cons_zero, List.set_cons_succ]
          refine quiet_call (.string ⟨q.toArray⟩) 118 #[tv k' m' (.slice at' ts'.length ct'), vv N' (.slice ab' bs'.length cb') (.slice av' us'.length cv') p'] (by rfl) (fun W hC => by go_simp) (fun W hC => (IH.out W (hbr3.trans (Below.mono hC hbr3.size))).mono fun _ _ h => ⟨h.1, Below.trans hC (Below.mono h.2 (Below.size hC))⟩) ?_
          simp only [Act.put, List.setIfInBounds_toArray, List.set_cons_zero, List.set_cons_succ]
          refine quiet_val (.string ⟨q.toArray⟩) (by rfl) (fun W hC => by go_simp) ?_
          simp only [Act.put, List.setIfInBounds_toArray, List.set_cons_zero, List.set_cons_succ]
          refine wpQuiet_nil ?_
          intro w4 hb4
          have hbr4 : Below wr.heap.size wr w4 := hbr3.trans (Below.mono hb4 hbr3.size)
          have hB4 := hB3.from_ hb4 hs2
          have t0 := hB4.c0
          have t1 := hB4.c1
          have t2 := hB4.c2
          clear IH HI hE hE3 hB3 hA3 hA2 hj9
          go_wp2_with fail
          refine (HFX.out _ hbr4).mono ?_
          rintro e w5 ⟨rfl, hb5⟩
          have hbr5 : Below wr.heap.size wr w5 := hbr4.trans (Below.mono hb5 hbr4.size)
          clear t0 t1 t2 HFX
          cases fx with
          | true =>
            go_wp2_with fail
            refine ⟨⟨j + 1, f ++ q, t, by omega, by simp, by rw [str_add], rfl, ?_, ?_, LW.trans (hbr5.mono LW.size)⟩, by simp [intOf]; omega⟩
            · rw [HN.out, HKD.out]; simp only [if_true]; rw [M.rowH_fix, HFF.out]
            · rw [HN.out, HKD.out]; simp only [if_true]; rw [M.rowL_fix, HTT.out]
          | false =>
            go_wp2_with fail
            refine (HOF.out _).mono ?_
            rintro e w6 ⟨rfl, hb6⟩
            have hbr6 : Below wr.heap.size wr w6 := hbr5.trans (Below.mono hb6 hbr5.size)
            go_wp2_with fail
            refine ⟨⟨j + 1, f ++ M.le 4 (off + t.length), t ++ q, by omega, by simp, by rw [str_add], by rw [str_add], ?_, ?_, LW.trans (hbr6.mono LW.size)⟩, by simp [intOf]; omega⟩
            · rw [HN.out, HKD.out]; simp only [if_false, Bool.false_eq_true]; rw [M.rowH_off, HFF.out, HTT.out]
            · rw [HN.out, HKD.out]; simp only [if_false, Bool.false_eq_true]; rw [M.rowL_off, HTT.out]
        · obtain rfl : j = us.length := by omega
          rw [List.take_length] at hff htt
          have hft : f.length + t.length ≤ 32000 := by
            have h1 := M.row_sum (M.putVs k ts p 0 us) off
            rw [hff, htt] at h1
            omega
          have HE2 := HE.out
          rw [hff, htt] at HE2
          have HE2 := Lib.hid HE2
          clear HE hff htt hsum hoff hoff2 hfv hcu ih
          go_wp2_with fail
          go_ret
          refine ⟨?_, hbW⟩
          rw [HE2.out, ← str_add]
          rfl
    by_cases e1 : k = 1
    · subst e1
      obtain ⟨m, rfl, hm1, hm2⟩ : ∃ m : Nat, n = (m : Int) ∧ 1 ≤ m ∧ m ≤ 32 := by
        have h2 := (M.chkT_ok.1 hc).2.1
        unfold M.formT at h2
        simp at h2
        exact ⟨n.toNat, by omega, by omega, by omega⟩
      have HL := Lib.hid (zlow_any N m w0 hm1 hm2)
      rw [show M.putV (.mk 1 (m : Int) ts) (.mk N bs us p) = M.le m N by rw [M.putV]; simp [M.Ty.k, M.Ty.n]]
      have t0 := hB0.c0
      have t1 := hB0.c1
      have t2 := hB0.c2
      have a0 := hA0.c0
      have a1 := hA0.c1
      have a2 := hA0.c2
      have a3 := hA0.c3
      have a4 := hA0.c4
      have a5 := hA0.c5
      have a6 := hA0.c6
      simp only [Nat.zero_add] at a1 a2 a3 a4 a5 a6
      rw [← HW.out] at t0 t1 t2 a0 a1 a2 a3 a4 a5 a6
      clear hw0 hcnt hf hc hc0 ih
      go_enter Tryz.func118, Tryz.ntmps118
      go_wp2_with fail
      rw [HW.out]
      refine (HL.out).mono ?_
      rintro e w1 ⟨rfl, hb1⟩
      go_wp2_with fail
      go_ret
      exact ⟨rfl, hb0.trans (Below.mono hb1 hb0.size)⟩
    by_cases e2 : k = 2
    · subst e2
      have HL := Lib.hid (zlow_any N 1 w0 (by omega) (by omega))
      rw [show M.putV (.mk 2 n ts) (.mk N bs us p) = M.le 1 N by rw [M.putV]; simp [M.Ty.k]]
      have t0 := hB0.c0
      have t1 := hB0.c1
      have t2 := hB0.c2
      have a0 := hA0.c0
      have a1 := hA0.c1
      have a2 := hA0.c2
      have a3 := hA0.c3
      have a4 := hA0.c4
      have a5 := hA0.c5
      have a6 := hA0.c6
      simp only [Nat.zero_add] at a1 a2 a3 a4 a5 a6
      rw [← HW.out] at t0 t1 t2 a0 a1 a2 a3 a4 a5 a6
      clear hw0 hcnt hf hc hc0 ih
      go_enter Tryz.func118, Tryz.ntmps118
      go_wp2_with fail
      rw [HW.out]
      refine (HL.out).mono ?_
      rintro e w1 ⟨rfl, hb1⟩
      go_wp2_with fail
      go_ret
      exact ⟨rfl, hb0.trans (Below.mono hb1 hb0.size)⟩
    by_cases e5 : k = 5
    · subst e5
      have hbl : 1 ≤ bs.length ∧ bs.length ≤ 1000000 := by
        have h2 := (M.chkT_ok.1 hc).2.1
        have h3 := (M.fit_parts0 hf).2.1
        rw [M.ofV_5] at h3
        unfold M.formT at h2
        simp at h2 h3
        omega
      have HL := Lib.hid (zpack_any bs ab cb w0 ((hV.b.from_ hb0).mono hb0.size) hbl.1 hbl.2)
      rw [show M.putV (.mk 5 n ts) (.mk N bs us p) = M.packB bs by rw [M.putV]; simp [M.Ty.k]]
      have t0 := hB0.c0
      have t1 := hB0.c1
      have t2 := hB0.c2
      have a0 := hA0.c0
      have a1 := hA0.c1
      have a2 := hA0.c2
      have a3 := hA0.c3
      have a4 := hA0.c4
      have a5 := hA0.c5
      have a6 := hA0.c6
      simp only [Nat.zero_add] at a1 a2 a3 a4 a5 a6
      rw [← HW.out] at t0 t1 t2 a0 a1 a2 a3 a4 a5 a6
      clear hw0 hcnt hf hc hc0 ih
      go_enter Tryz.func118, Tryz.ntmps118
      go_wp2_with fail
      rw [HW.out]
      refine (HL.out).mono ?_
      rintro e w1 ⟨rfl, hb1⟩
      go_wp2_with fail
      go_ret
      exact ⟨rfl, hb0.trans (Below.mono hb1 hb0.size)⟩
    by_cases e6 : k = 6
    · subst e6
      have hbl : bs.length ≤ 1000 := by
        have h1 := (M.fit_parts0 hf).1
        have h2 := (M.chkT_ok.1 hc).2.1
        unfold M.formT at h2
        simp at h1 h2
        omega
      have HE : Hid (M.putV (.mk 6 n ts) (.mk N bs us p) = M.packB (bs ++ [true])) := by show _ = _; rw [M.putV]; simp [M.Ty.k, M.listB]
      have HP := Lib.hid (fun (ab : Option Addr) (cb : Nat) (W : World) (h : LayB W W.heap.size (bs ++ [true]) (.slice ab (bs ++ [true]).length cb)) => zpack_any (bs ++ [true]) ab cb W h (by simp) (by simp; omega))
      obtain ⟨i0, hi, hz0', hz1', hz2'⟩ := info_parts Tryz.infoBool
      by_cases hnil : bs = []
      · subst hnil
        clear hbl
        rw [List.nil_append] at HP
        have t0 := hB0.c0
        have t1 := hB0.c1
        have t2 := hB0.c2
        have a0 := hA0.c0
        have a1 := hA0.c1
        have a2 := hA0.c2
        have a3 := hA0.c3
        have a4 := hA0.c4
        have a5 := hA0.c5
        have a6 := hA0.c6
        simp only [Nat.zero_add] at a1 a2 a3 a4 a5 a6
        have hlw : w0.heap.size ≤ ((w.alloc (.cells #[.int .i64 6, .int .i64 n, .slice at_ ts.length ct] 32)).alloc (.cells #[.int .u64 (M.pt 0 N), .int .u64 (M.pt 1 N), .int .u64 (M.pt 2 N), .int .u64 (M.pt 3 N), .slice ab ([] : List Bool).length cb, .slice au us.length cu, .int .i64 p] 38)).heap.size := by rw [HW.out]; exact Nat.le_refl _
        rw [← HW.out] at t0 t1 t2 a0 a1 a2 a3 a4 a5 a6
        clear hw0 hcnt hf hc hc0 ih hT hV
        cases ab with
        | none =>
          have HNEW : ∀ j u, [Value.bool true][j]? = some u → (((w.alloc (.cells #[.int .i64 6, .int .i64 n, .slice at_ ts.length ct] 32)).alloc (.cells #[.int .u64 (M.pt 0 N), .int .u64 (M.pt 1 N), .int .u64 (M.pt 2 N), .int .u64 (M.pt 3 N), .slice none 0 cb, .slice au us.length cu, .int .i64 p] 38)).alloc (.cells #[.bool true] 4)).cell? ((⟨w.heap.size + 1 + 1, 0, none⟩ : Addr).add j) = some u := by
            have := cell_one_new ((w.alloc (.cells #[.int .i64 6, .int .i64 n, .slice at_ ts.length ct] 32)).alloc (.cells #[.int .u64 (M.pt 0 N), .int .u64 (M.pt 1 N), .int .u64 (M.pt 2 N), .int .u64 (M.pt 3 N), .slice none 0 cb, .slice au us.length cu, .int .i64 p] 38)) (.bool true) 4
            rwa [World.size_alloc, World.size_alloc] at this
          go_enter Tryz.func118, Tryz.ntmps118
          go_wp2_with (at_builtin; refine wpList_append_own _ rfl _ _ 35 rfl w0.heap.size 4 i0 (.bool false) 1 1 Tryz.underlying35 hi hz0' hz1' hz2' rfl (by decide) _ _ _ rfl (World.ownsRow_nil _ _ _ _) ⟨w.heap.size + 1 + 1, 0, none⟩ 1 1 [.bool true] rfl rfl HNEW (by simp [Value.oneCell']) (by unfold maxLen; omega) (by omega) (by simp; omega) ?_; intro v2 w4 hown2 hgrow2 _)
          have e0 : ((w.alloc (.cells #[.int .i64 6, .int .i64 n, .slice at_ ts.length ct] 32)).alloc (.cells #[.int .u64 (M.pt 0 N), .int .u64 (M.pt 1 N), .int .u64 (M.pt 2 N), .int .u64 (M.pt 3 N), .slice none 0 cb, .slice au us.length cu, .int .i64 p] 38)) = w0 := HW.out
          rw [e0] at hgrow2
          have hbB : Below w.heap.size w w4 := (hb0.alloc hb0.size _).grown hgrow2 (by simp; omega) (fun q e => by cases e)
          obtain ⟨g, cap, rfl, hLB⟩ := own_bools (l := [true]) hown2 (by simp)
          clear hown2 hgrow2 HNEW
          refine (HP.out _ _ w4 hLB).mono ?_
          rintro e w5 ⟨rfl, hb5⟩
          go_wp2_with fail
          go_ret
          refine ⟨?_, hbB.trans (Below.mono hb5 hbB.size)⟩
          rw [HE.out]
          rfl
        | some a =>
          have HNEW : ∀ j u, [Value.bool true][j]? = some u → (((w.alloc (.cells #[.int .i64 6, .int .i64 n, .slice at_ ts.length ct] 32)).alloc (.cells #[.int .u64 (M.pt 0 N), .int .u64 (M.pt 1 N), .int .u64 (M.pt 2 N), .int .u64 (M.pt 3 N), .slice (some a) 0 cb, .slice au us.length cu, .int .i64 p] 38)).alloc (.cells #[.bool true] 4)).cell? ((⟨w.heap.size + 1 + 1, 0, none⟩ : Addr).add j) = some u := by
            have := cell_one_new ((w.alloc (.cells #[.int .i64 6, .int .i64 n, .slice at_ ts.length ct] 32)).alloc (.cells #[.int .u64 (M.pt 0 N), .int .u64 (M.pt 1 N), .int .u64 (M.pt 2 N), .int .u64 (M.pt 3 N), .slice (some a) 0 cb, .slice au us.length cu, .int .i64 p] 38)) (.bool true) 4
            rwa [World.size_alloc, World.size_alloc] at this
          go_enter Tryz.func118, Tryz.ntmps118
          go_wp2_with (at_builtin; refine wpList_append_own _ rfl _ _ 35 rfl w0.heap.size 4 i0 (.bool false) 1 1 Tryz.underlying35 hi hz0' hz1' hz2' rfl (by decide) _ _ _ rfl (World.ownsRow_nil _ _ _ _) ⟨w.heap.size + 1 + 1, 0, none⟩ 1 1 [.bool true] rfl rfl HNEW (by simp [Value.oneCell']) (by unfold maxLen; omega) (by omega) (by simp; omega) ?_; intro v2 w4 hown2 hgrow2 _)
          have e0 : ((w.alloc (.cells #[.int .i64 6, .int .i64 n, .slice at_ ts.length ct] 32)).alloc (.cells #[.int .u64 (M.pt 0 N), .int .u64 (M.pt 1 N), .int .u64 (M.pt 2 N), .int .u64 (M.pt 3 N), .slice (some a) 0 cb, .slice au us.length cu, .int .i64 p] 38)) = w0 := HW.out
          rw [e0] at hgrow2
          have hbB : Below w.heap.size w w4 := (hb0.alloc hb0.size _).grown hgrow2 (by simp; omega) (fun q e => by cases e)
          obtain ⟨g, cap, rfl, hLB⟩ := own_bools (l := [true]) hown2 (by simp)
          clear hown2 hgrow2 HNEW
          refine (HP.out _ _ w4 hLB).mono ?_
          rintro e w5 ⟨rfl, hb5⟩
          go_wp2_with fail
          go_ret
          refine ⟨?_, hbB.trans (Below.mono hb5 hbB.size)⟩
          rw [HE.out]
          rfl
      obtain ⟨b, o, _, rfl, _, _, _⟩ := hV.b.at_ (i := 0) (List.length_pos_iff.2 hnil)
      have HC := (hV.b.from_ hb0).cells
      have t0 := hB0.c0
      have t1 := hB0.c1
      have t2 := hB0.c2
      have a0 := hA0.c0
      have a1 := hA0.c1
      have a2 := hA0.c2
      have a3 := hA0.c3
      have a4 := hA0.c4
      have a5 := hA0.c5
      have a6 := hA0.c6
      simp only [Nat.zero_add] at a1 a2 a3 a4 a5 a6
      have hlw : w0.heap.size ≤ ((w.alloc (.cells #[.int .i64 6, .int .i64 n, .slice at_ ts.length ct] 32)).alloc (.cells #[.int .u64 (M.pt 0 N), .int .u64 (M.pt 1 N), .int .u64 (M.pt 2 N), .int .u64 (M.pt 3 N), .slice (some ⟨b, o, none⟩) bs.length cb, .slice au us.length cu, .int .i64 p] 38)).heap.size := by rw [HW.out]; exact Nat.le_refl _
      rw [← HW.out] at t0 t1 t2 a0 a1 a2 a3 a4 a5 a6 HC
      clear hw0 hcnt hf hc hc0 ih hnil
      go_enter Tryz.func118, Tryz.ntmps118
      go_wp2_with (first | (at_builtin; refine wpList_append_own _ rfl _ _ 35 rfl w0.heap.size 4 i0 (.bool false) 1 1 Tryz.underlying35 hi hz0' hz1' hz2' rfl (by decide) (.slice none 0 0) 0 [] rfl (World.ownsRow_nil _ _ _ _) ⟨b, o, none⟩ bs.length cb (bs.map Value.bool) rfl (by simp) HC (fun u hu => by obtain ⟨x, _, rfl⟩ := List.mem_map.1 hu; rfl) (by unfold maxLen; omega) (by omega) hlw ?_; intro v1 w2 hown1 hgrow1 _) | (at_builtin; refine wpList_append_own _ rfl _ _ 35 rfl w0.heap.size 4 i0 (.bool false) 1 1 Tryz.underlying35 hi hz0' hz1' hz2' rfl (by decide) _ _ _ rfl (hown1.alloc _) ⟨w2.heap.size, 0, none⟩ 1 1 [.bool true] rfl rfl (cell_one_new _ _ _) (by simp [Value.oneCell']) (by unfold maxLen; omega) (by omega) (by have := hgrow1.size; rw [HW.out] at this; simp; omega) ?_; intro v2 w4 hown2 hgrow2 _))
      rw [HW.out] at hgrow1
      have hbA : Below w.heap.size w w2 := hb0.grown hgrow1 hb0.size (fun q e => by cases e)
      have hs2 := hgrow1.size
      have hbB : Below w.heap.size w w4 := (hbA.alloc hbA.size _).grown hgrow2 (by simp; omega) (fun q e => by have := (hown1.lt q e).1; omega)
      have hown3 : w4.ownsRow w0.heap.size 4 1 v2 (bs ++ [true]).length ((bs ++ [true]).map Value.bool) := by
        have := hown2
        rw [List.nil_append, Nat.zero_add] at this
        rw [List.length_append, List.length_singleton, List.map_append]
        exact this
      obtain ⟨g, cap, rfl, hLB⟩ := own_bools hown3 (by simp)
      clear hown1 hown2 hown3 hgrow1 hgrow2
      refine (HP.out _ _ w4 hLB).mono ?_
      rintro e w5 ⟨rfl, hb5⟩
      go_wp2_with fail
      go_ret
      refine ⟨?_, hbB.trans (Below.mono hb5 hbB.size)⟩
      rw [HE.out]
      rfl
    obtain rfl : k = 8 := by have := (M.chkT_ok.1 hc).1; omega
    exact zunion_step z (Lib.hid ih) n ts at_ ct d N bs us p ab cb au cu w hsz hT hV hc hf hcnt
end Go.Proofs.YtaajkbclojmbeaaGreatDoor
namespace Go.Proofs.YtaajkbclojmbeaaGreatDoor
open Go Go.RowKit Go.Shelf Go.Lib
attribute [local go_sem] Oper.semAt_some

/-- What the reference's Of must do, for values of such size. -/
def ROfC (z : Nat) : Prop := ∀ (k n : Int) (ts : List M.Ty) (at_ : Option Addr) (ct : Nat) (d : Nat) (N : Nat) (bs : List Bool) (us : List M.Va) (p : Int) (ab : Option Addr) (cb : Nat) (au : Option Addr) (cu : Nat) (w : World), SizeOf.sizeOf us ≤ z → LayT w w.heap.size ts (.slice at_ ts.length ct) → Vl w w.heap.size N bs us ab cb au cu → M.chkT d (.mk k n ts) = 0 → M.fitV (.mk k n ts) (.mk N bs us p) = 0 → M.cntV (.mk N bs us p) ≤ 800 →
  Calls Tryz.prog 27 #[tv k n (.slice at_ ts.length ct), vv N (.slice ab bs.length cb) (.slice au us.length cu) p] w fun e w' => e = .returned (.string ⟨(M.rootV (.mk k n ts) (.mk N bs us p)).toArray⟩) ∧ Below w.heap.size w w'
/-- What a round over items keeps. -/
def XG (w0 : World) (E : List (List UInt8)) (v i : Value) (wr : World) : Prop := ∃ j : Nat, j ≤ E.length ∧ i = .int .i64 (j : Nat) ∧ OwS w0.heap.size (E.take j) v wr ∧ Below w0.heap.size w0 wr
set_option maxRecDepth 100000 in
set_option maxHeartbeats 8000000 in
theorem rroots_any (z : Nat) (ih : Hid (ROfC z)) (k n : Int) (ts : List M.Ty) (at_ : Option Addr) (ct : Nat) (N : Nat) (bs : List Bool) (us : List M.Va) (p : Int) (ab : Option Addr) (cb : Nat) (au : Option Addr) (cu : Nat) (w : World) (hT : LayT w w.heap.size ts (.slice at_ ts.length ct)) (hV : Vl w w.heap.size N bs us ab cb au cu) (d : Nat) (hs : SizeOf.sizeOf us ≤ z + 1) (hk : k = 3 ∨ k = 4 ∨ k = 7) (hc : M.chkT d (.mk k n ts) = 0) (hf : M.fitV (.mk k n ts) (.mk N bs us p) = 0) (hcnt : M.cntV (.mk N bs us p) ≤ 800) :
    Calls Tryz.prog 117 #[tv k n (.slice at_ ts.length ct), vv N (.slice ab bs.length cb) (.slice au us.length cu) p] w fun e w' => (∃ v, e = .returned v ∧ OwS w.heap.size (M.rootVs k ts p 0 us) v w') ∧ Below w.heap.size w w' := by
  obtain ⟨w0, hw0⟩ : ∃ w0, (w.alloc (.cells #[.int .i64 k, .int .i64 n, .slice at_ ts.length ct] 32)).alloc (.cells #[.int .u64 (M.pt 0 N), .int .u64 (M.pt 1 N), .int .u64 (M.pt 2 N), .int .u64 (M.pt 3 N), .slice ab bs.length cb, .slice au us.length cu, .int .i64 p] 38) = w0 := ⟨_, rfl⟩
  have hb0 : Below w.heap.size w w0 := by rw [← hw0]; exact two_boxes _ _ _
  have hz0 : w0.heap.size = w.heap.size + 2 := by rw [← hw0]; simp
  have hB0 : BoxT w0 w.heap.size k n (.slice at_ ts.length ct) := by rw [← hw0]; exact ⟨by simp [go_sem], by simp [go_sem], by simp [go_sem]⟩
  have hA0 : Cells7 w0 (w.heap.size + 1) 0 N (.slice ab bs.length cb) (.slice au us.length cu) p := by
    rw [← hw0]
    have := Cells7.new (w.alloc (.cells #[.int .i64 k, .int .i64 n, .slice at_ ts.length ct] 32)) N (.slice ab bs.length cb) (.slice au us.length cu) p 38
    rwa [World.size_alloc] at this
  have hlt0 : w.heap.size < w0.heap.size := by omega
  have hlt1 : w.heap.size + 1 < w0.heap.size := by omega
  have HW := Lib.hid hw0
  have HZ0 := Lib.hid hz0
  have mixed : Tryz.prog.follows .mixedOrders = true := by kernel_rfl
  clear hw0 hz0
  have HPL := Lib.hid (M.items_place hc hf hk)
  have hfv := (M.fit_parts0 hf).2.2
  have hcu : M.cntVs us ≤ 800 := by rw [M.cntV] at hcnt; omega
  have hul : us.length ≤ 800 := Nat.le_trans (M.length_cntV us) hcu
  obtain ⟨E, hE⟩ : ∃ E, M.rootVs k ts p 0 us = E := ⟨_, rfl⟩
  have HEL : Hid (E.length = us.length) := by show _ = _; rw [← hE, M.rootVs_length]
  have HEN : Hid (∀ j v, us[j]? = some v → E[j]? = some (M.rootV (M.inT k ts p j) v)) := fun j v h => by rw [← hE, M.rootVs_next k ts p us 0 j v h, Nat.zero_add]
  rw [hE]
  clear hE hk hf hcnt
  go_enter Tryz.func117, Tryz.ntmps117
  go_wp2_with fail
  rw [HW.out]
  go_loopw [5, 6] (fun v i wr => XG w0 E v i wr) (fun _ i _ => us.length - (RowKit.intOf i).toNat)
  case atStart => exact ⟨0, Nat.zero_le _, rfl, OwS.nil _ _, Below.refl _ _⟩
  case round =>
    obtain ⟨j, hj, rfl, hO, hbr⟩ := hrel
    rw [HEL.out] at hj
    obtain ⟨lb, ld, hlv⟩ := hO.len
    have htl : (E.take j).length = j := by rw [List.length_take, HEL.out]; omega
    rw [htl] at hlv
    subst hlv
    by_cases hlt : j < us.length
    · obtain ⟨bv, ov, N', bs', us', p', ab', cb', av', cv', hau, hbv0, hxk, hEc, hV'⟩ := hV.v.at_ hlt
      subst hau
      obtain ⟨k', m', ts', at', ct', hin, hc1, _, hT', HI⟩ := zin_at hT hc (HPL.out j hlt)
      have hfj := M.fitVs_at k ts p us 0 j _ hfv hxk
      rw [Nat.zero_add, hin] at hfj
      have hsx := size_va hxk
      rw [M.Va.mk.sizeOf_spec] at hsx
      have hcj := M.cntV_part (List.mem_of_getElem? hxk)
      have hEj := HEN.out j _ hxk
      rw [hin] at hEj
      have HC := Lib.hid (fun X (h : Below w0.heap.size w0 X) => ih.out k' m' ts' at' ct' (d + 1) N' bs' us' p' ab' cb' av' cv' X (by omega) ((hT'.from_ (hb0.trans (h.mono hb0.size))).mono (hb0.trans (h.mono hb0.size)).size) ((hV'.from_ (hb0.trans (h.mono hb0.size))).mono (hb0.trans (h.mono hb0.size)).size) hc1 hfj (by omega))
      generalize M.rootV (.mk k' m' ts') (.mk N' bs' us' p') = u at *
      have HI2 := Lib.hid (fun X (h : Below w0.heap.size w0 X) => HI X (hb0.trans (h.mono hb0.size)) N (.slice ab bs.length cb) (.slice (some ⟨bv, ov, none⟩) us.length cu))
      have HEJ := Lib.hid (M.take_one hEj)
      have HO := Lib.hid hO
      have hbv1 : bv < w0.heap.size := by have := hb0.size; omega
      have hE0 := hEc.from_ hb0 hbv0
      have hjI : (j : Int) < us.length := by omega
      obtain ⟨i1, hi1, hiz, his, hib⟩ := info_parts Tryz.ofTxt
      clear hO hEj hxk hin hfj hsx hcj hc1 hT' hV' HI hEc
      have hAr := hA0.from_ hbr hlt1
      have a0 := hAr.c0
      have a1 := hAr.c1
      have a2 := hAr.c2
      have a3 := hAr.c3
      have a4 := hAr.c4
      have a5 := hAr.c5
      have a6 := hAr.c6
      simp only [Nat.zero_add] at a1 a2 a3 a4 a5 a6
      go_wp2_with fail
      clear a0 a1 a2 a3 a4 a5 a6
      refine wp_region_held (S := fun Y => Below w0.heap.size w0 Y) mixed ?_
      have hS0 : Below w0.heap.size w0 wr.drew := Below.drew hbr
      rw [show Array.replicate (Array.size _) false = #[false, false, false, false, false, false, false, false, false, false, false, false, false, false] from rfl, show Array.size (α := Oper) _ = 14 from rfl]
      refine wpAnyH_take (i := 0) (v := .slice lb j ld) rfl (by kernel_rfl) (by kernel_rfl) (by kernel_rfl) (fun _ _ _ h => h) (Or.inl ⟨by rfl, ?_⟩) hS0 ?_
      · intro Y hY
        skip
        go_simp
      simp only [Act.put, List.getElem_toArray, List.getElem_cons_zero, List.setIfInBounds_toArray, List.set_cons_zero, List.set_cons_succ]
      refine wpAnyH_take (i := 1) (v := tv k n (.slice at_ ts.length ct)) rfl (by kernel_rfl) (by kernel_rfl) (by kernel_rfl) (fun _ _ _ h => h) (Or.inl ⟨by rfl, ?_⟩) hS0 ?_
      · intro Y hY
        have b0 := (hY.cell (p := ⟨w.heap.size, 0, none⟩) hlt0).trans hB0.c0; have b1 := (hY.cell (p := ⟨w.heap.size, 1, none⟩) hlt0).trans hB0.c1; have b2 := (hY.cell (p := ⟨w.heap.size, 2, none⟩) hlt0).trans hB0.c2
        go_simp
      simp only [Act.put, List.getElem_toArray, List.getElem_cons_succ, List.getElem_cons_zero, List.setIfInBounds_toArray, List.set_cons_zero, List.set_cons_succ]
      refine wpAnyH_take (i := 2) (v := vv N (.slice ab bs.length cb) (.slice (some ⟨bv, ov, none⟩) us.length cu) p) rfl (by kernel_rfl) (by kernel_rfl) (by kernel_rfl) (fun _ _ _ h => h) (Or.inl ⟨by rfl, ?_⟩) hS0 ?_
      · intro Y hY
        have hAY := hA0.from_ hY hlt1; have a0 := hAY.c0; have a1 := hAY.c1; have a2 := hAY.c2; have a3 := hAY.c3; have a4 := hAY.c4; have a5 := hAY.c5; have a6 := hAY.c6; simp only [Nat.zero_add] at a1 a2 a3 a4 a5 a6
        go_simp
      simp only [Act.put, List.getElem_toArray, List.getElem_cons_succ, List.getElem_cons_zero, List.setIfInBounds_toArray, List.set_cons_zero, List.set_cons_succ]
      refine wpAnyH_take (i := 3) (v := .int .i64 (j : Nat)) rfl (by kernel_rfl) (by kernel_rfl) (by kernel_rfl) (fun _ _ _ h => h) (Or.inl ⟨by rfl, ?_⟩) hS0 ?_
      · intro Y hY
        skip
        go_simp
      simp only [Act.put, List.getElem_toArray, List.getElem_cons_succ, List.getElem_cons_zero, List.setIfInBounds_toArray, List.set_cons_zero, List.set_cons_succ]
      refine wpAnyH_take (i := 5) (v := .pointer (some ⟨w.heap.size + 1, 5, none⟩)) rfl (by kernel_rfl) (by kernel_rfl) (by kernel_rfl) (fun _ _ _ h => h) (Or.inl ⟨by rfl, ?_⟩) hS0 ?_
      · intro Y hY
        skip
        go_simp
      simp only [Act.put, List.getElem_toArray, List.getElem_cons_succ, List.getElem_cons_zero, List.setIfInBounds_toArray, List.set_cons_zero, List.set_cons_succ]
      refine wpAnyH_take (i := 6) (v := .slice (some ⟨bv, ov, none⟩) us.length cu) rfl (by kernel_rfl) (by kernel_rfl) (by kernel_rfl) (fun _ _ _ h => h) (Or.inl ⟨by rfl, ?_⟩) hS0 ?_
      · intro Y hY
        have hAY := hA0.from_ hY hlt1; have a0 := hAY.c0; have a1 := hAY.c1; have a2 := hAY.c2; have a3 := hAY.c3; have a4 := hAY.c4; have a5 := hAY.c5; have a6 := hAY.c6; simp only [Nat.zero_add] at a1 a2 a3 a4 a5 a6
        go_simp
      simp only [Act.put, List.getElem_toArray, List.getElem_cons_succ, List.getElem_cons_zero, List.setIfInBounds_toArray, List.set_cons_zero, List.set_cons_succ]
      refine wpAnyH_take (i := 7) (v := .int .i64 (j : Nat)) rfl (by kernel_rfl) (by kernel_rfl) (by kernel_rfl) (fun _ _ _ h => h) (Or.inl ⟨by rfl, ?_⟩) hS0 ?_
      · intro Y hY
        skip
        go_simp
      simp only [Act.put, List.getElem_toArray, List.getElem_cons_succ, List.getElem_cons_zero, List.setIfInBounds_toArray, List.set_cons_zero, List.set_cons_succ]
      refine wpAnyH_take (i := 8) (v := .pointer (some ⟨bv, ov + j * 7, none⟩)) rfl (by kernel_rfl) (by kernel_rfl) (by kernel_rfl) (fun _ _ _ h => h) (Or.inl ⟨by rfl, ?_⟩) hS0 ?_
      · intro Y hY
        skip
        go_simp
        try (intro h; omega)
      simp only [Act.put, List.getElem_toArray, List.getElem_cons_succ, List.getElem_cons_zero, List.setIfInBounds_toArray, List.set_cons_zero, List.set_cons_succ]
      refine wpAnyH_take (i := 9) (v := vv N' (.slice ab' bs'.length cb') (.slice av' us'.length cv') p') rfl (by kernel_rfl) (by kernel_rfl) (by kernel_rfl) (fun _ _ _ h => h) (Or.inl ⟨by rfl, ?_⟩) hS0 ?_
      · intro Y hY
        have z := hE0.from_ hY hbv1; have c0 := z.c0; have c1 := z.c1; have c2 := z.c2; have c3 := z.c3; have c4 := z.c4; have c5 := z.c5; have c6 := z.c6
        go_simp
      simp only [Act.put, List.getElem_toArray, List.getElem_cons_succ, List.getElem_cons_zero, List.setIfInBounds_toArray, List.set_cons_zero, List.set_cons_succ]
      refine wpAnyH_ready (rs := [4]) (by kernel_rfl) (by simp) ?_
      refine AllReadyH.cons rfl (fun K hK => ?_) AllReadyH.nil
      go_simp
      refine (HI2.out _ hS0).mono ?_
      rintro e w4 ⟨rfl, hb4⟩
      have hS4 : Below w0.heap.size w0 w4 := hS0.trans (Below.mono hb4 hS0.size)
      try go_wp2_with fail
      refine hK.out _ _ hS4 (fun _ => ?_)
      clear hK K
      simp only [List.setIfInBounds_toArray, List.set_cons_zero, List.set_cons_succ]
      refine wpAnyH_ready (rs := [10]) (by kernel_rfl) (by simp) ?_
      refine AllReadyH.cons rfl (fun K hK => ?_) AllReadyH.nil
      go_simp
      refine (HC.out _ hS4).mono ?_
      rintro e w5 ⟨rfl, hb5⟩
      have hS5 : Below w0.heap.size w0 w5 := hS4.trans (Below.mono hb5 hS4.size)
      try go_wp2_with fail
      refine hK.out _ _ hS5 (fun _ => ?_)
      clear hK K
      simp only [List.setIfInBounds_toArray, List.set_cons_zero, List.set_cons_succ]
      refine wpAnyH_ready (rs := [11]) (by kernel_rfl) (by simp) ?_
      refine AllReadyH.cons rfl (fun K hK => ?_) AllReadyH.nil
      rw [if_pos (by rfl)]
      refine wp_build_one 22 9 (.tmp 24) (.string ⟨u.toArray⟩) (.string ⟨#[]⟩) i1 rfl rfl rfl Tryz.underlying22 hi1 hiz his rfl ?_
      obtain ⟨w6, hw6⟩ : ∃ w6, w5.alloc (.cells #[.string ⟨u.toArray⟩] 9) = w6 := ⟨_, rfl⟩
      have hb56 : Below w5.heap.size w5 w6 := by rw [← hw6]; exact (Below.refl _ _).alloc (Nat.le_refl _) _
      have hc6 : w6.cell? ⟨w5.heap.size, 0, none⟩ = some (.string ⟨u.toArray⟩) := by rw [← hw6]; simp [go_sem]
      have hS6 : Below w0.heap.size w0 w6 := hS5.trans (hb56.mono hS5.size)
      rw [hw6]
      clear hw6
      refine hK.out _ _ hS6 (fun _ => ?_)
      clear hK K
      simp only [List.setIfInBounds_toArray, List.set_cons_zero, List.set_cons_succ]
      have hd1 : Below wr.heap.size wr wr.drew := Below.drew (Below.refl _ _)
      have hbr6 : Below wr.heap.size wr w6 := hd1.trans (Below.trans hb4 (Below.mono (Below.trans hb5 (hb56.mono hb5.size)) hb4.size))
      have hO6 := HO.out.from_ hbr6
      refine wpAnyH_ready (rs := [12]) (by kernel_rfl) (by simp) ?_
      refine AllReadyH.cons rfl (fun K hK => ?_) AllReadyH.nil
      rw [if_pos (by rfl)]
      refine wp_append_txt w6 _ _ rfl w0.heap.size (E.take j) u w5.heap.size (.slice lb j ld) rfl rfl hO6 hc6 (by rw [htl]; omega) hS6.size ?_
      intro v' w7 hA7
      have hrow : ∀ g, (Value.slice lb j ld).ownBlock = some g → w0.heap.size ≤ g ∧ g < wr.heap.size := HO.out.lt
      have hS7 : Below w0.heap.size w0 w7 := hS6.grown hA7.grown hS6.size (fun g e => (hrow g e).1)
      refine hK.out _ _ hS7 (fun _ => ?_)
      clear hK K
      simp only [List.setIfInBounds_toArray, List.set_cons_zero, List.set_cons_succ]
      refine wpAnyH_ready (rs := [13]) (by kernel_rfl) (by simp) ?_
      refine AllReadyH.cons rfl (fun K hK => ?_) AllReadyH.nil
      go_simp
      refine hK.out _ _ hS7 (fun _ => ?_)
      clear hK K
      simp only [List.setIfInBounds_toArray, List.set_cons_zero, List.set_cons_succ]
      refine wpAnyH_done (by kernel_rfl) ?_ _
      have hAO := hA7.own
      rw [← HEJ.out] at hAO
      have HAO := Lib.hid hAO
      have HS7 := Lib.hid hS7
      clear hA7 hAO hS7 hO6 hS0
      go_wp2_with fail
      exact ⟨⟨j + 1, by rw [HEL.out]; omega, by push_cast; rfl, HAO.out, HS7.out⟩, by simp [RowKit.intOf]; omega⟩
    · obtain rfl : j = us.length := by omega
      have hjI : ¬ (us.length : Int) < us.length := by omega
      rw [List.take_of_length_le (by rw [HEL.out]; exact Nat.le_refl _)] at hO
      have HO := Lib.hid (hO.mono hb0.size)
      have HBR := Lib.hid (hb0.trans (Below.mono hbr hb0.size))
      have hAr := hA0.from_ hbr hlt1
      have a0 := hAr.c0
      have a1 := hAr.c1
      have a2 := hAr.c2
      have a3 := hAr.c3
      have a4 := hAr.c4
      have a5 := hAr.c5
      have a6 := hAr.c6
      simp only [Nat.zero_add] at a1 a2 a3 a4 a5 a6
      clear hO hbr hAr
      go_wp2_with fail
      go_ret
      exact ⟨⟨_, rfl, HO.out⟩, HBR.out⟩
end Go.Proofs.YtaajkbclojmbeaaGreatDoor
namespace Go.Proofs.YtaajkbclojmbeaaGreatDoor
open Go Go.RowKit Go.Shelf Go.Lib
attribute [local go_sem] Oper.semAt_some

theorem rows_few {k n : Int} {t : M.Ty} {num : Nat} {bits : List Bool} {items : List M.Va} {pick : Int} {d : Nat} (hk : k = 3 ∨ k = 4) (hc : M.chkT d (.mk k n [t]) = 0) (hf : M.fitV (.mk k n [t]) (.mk num bits items pick) = 0) :
    (1 ≤ n ∧ n ≤ 512) ∧ (items.length : Int) ≤ n ∧ M.fitVs k [t] pick 0 items = 0 := by
  obtain ⟨h1, h2, h3⟩ := M.of_fit hf
  have hform := (M.chkT_ok.1 hc).2.1
  rcases hk with rfl | rfl
  · unfold M.formT at hform
    simp at hform
    rw [M.ofV_3] at h2
    simp at h2
    exact ⟨by omega, by omega, h3⟩
  · unfold M.formT at hform
    simp at hform
    exact ⟨by omega, by omega, h3⟩
theorem rows_one {k n : Int} {ts : List M.Ty} {d : Nat} (hk : k = 3 ∨ k = 4) (hc : M.chkT d (.mk k n ts) = 0) : ∃ t, ts = [t] := by
  have hform := (M.chkT_ok.1 hc).2.1
  have hl : ts.length = 1 := by
    unfold M.formT at hform
    rcases hk with rfl | rfl <;> simp at hform <;> omega
  match ts, hl with
  | [t], _ => exact ⟨t, rfl⟩
theorem pow_dep {a m : Nat} (h : a ≤ m) (hm : m ≤ 512) : a ≤ 2 ^ M.dep m := Nat.le_trans h (M.dep_most hm)
set_option maxRecDepth 100000 in
set_option maxHeartbeats 8000000 in
theorem rrow_7 (z : Nat) (ih : Hid (ROfC z)) (n : Int) (ts : List M.Ty) (at_ : Option Addr) (ct : Nat) (N : Nat) (bs : List Bool) (us : List M.Va) (p : Int) (ab : Option Addr) (cb : Nat) (au : Option Addr) (cu : Nat) (w : World) (hT : LayT w w.heap.size ts (.slice at_ ts.length ct)) (hV : Vl w w.heap.size N bs us ab cb au cu) (d : Nat) (hs : SizeOf.sizeOf us ≤ z + 1) (hc : M.chkT d (.mk 7 n ts) = 0) (hf : M.fitV (.mk 7 n ts) (.mk N bs us p) = 0) (hcnt : M.cntV (.mk N bs us p) ≤ 800) :
    Calls Tryz.prog 60 #[tv 7 n (.slice at_ ts.length ct), vv N (.slice ab bs.length cb) (.slice au us.length cu) p] w fun e w' => e = .returned (.string ⟨(M.treeT (M.rootVs 7 ts p 0 us) ts.length).toArray⟩) ∧ Below w.heap.size w w' := by
  obtain ⟨w0, hw0⟩ : ∃ w0, (w.alloc (.cells #[.int .i64 7, .int .i64 n, .slice at_ ts.length ct] 32)).alloc (.cells #[.int .u64 (M.pt 0 N), .int .u64 (M.pt 1 N), .int .u64 (M.pt 2 N), .int .u64 (M.pt 3 N), .slice ab bs.length cb, .slice au us.length cu, .int .i64 p] 38) = w0 := ⟨_, rfl⟩
  have hb0 : Below w.heap.size w w0 := by rw [← hw0]; exact two_boxes _ _ _
  have hz0 : w0.heap.size = w.heap.size + 2 := by rw [← hw0]; simp
  have hB0 : BoxT w0 w.heap.size 7 n (.slice at_ ts.length ct) := by rw [← hw0]; exact ⟨by simp [go_sem], by simp [go_sem], by simp [go_sem]⟩
  have hA0 : Cells7 w0 (w.heap.size + 1) 0 N (.slice ab bs.length cb) (.slice au us.length cu) p := by
    rw [← hw0]
    have := Cells7.new (w.alloc (.cells #[.int .i64 7, .int .i64 n, .slice at_ ts.length ct] 32)) N (.slice ab bs.length cb) (.slice au us.length cu) p 38
    rwa [World.size_alloc] at this
  have hlt0 : w.heap.size < w0.heap.size := by omega
  have hlt1 : w.heap.size + 1 < w0.heap.size := by omega
  have HW := Lib.hid hw0
  have HZ0 := Lib.hid hz0
  have mixed : Tryz.prog.follows .mixedOrders = true := by kernel_rfl
  clear hw0 hz0
  have hfp := M.fit_parts0 hf
  have hul : us.length = ts.length := by have h := hfp.2.1; rw [M.ofV_7] at h; simp at h; omega
  have htl : ts.length ≤ 512 := by
    have hform := (M.chkT_ok.1 hc).2.1
    unfold M.formT at hform
    simp at hform
    omega
  have hall := M.roots_all 7 ts p 0 us hfp.2.2
  have hrl := M.rootVs_length 7 ts p us 0
  have HRS := Lib.hid (fun X (h : Below w0.heap.size w0 X) => rroots_any z ih 7 n ts at_ ct N bs us p ab cb au cu X ((hT.from_ (hb0.trans (h.mono hb0.size))).mono (hb0.trans (h.mono hb0.size)).size) ((hV.from_ (hb0.trans (h.mono hb0.size))).mono (hb0.trans (h.mono hb0.size)).size) d hs (by omega) hc hf hcnt)
  generalize M.rootVs 7 ts p 0 us = E at *
  have HTR := Lib.hid (fun a' c' X (h : Ts X X.heap.size E (.slice a' E.length c')) => rtree_any E ts.length a' c' X h hall htl (pow_dep (by omega) htl))
  clear hfp hall hc hf hcnt ih hs hul hrl htl
  go_enter Tryz.func60, Tryz.ntmps60
  go_wp2_with fail
  rw [HW.out]
  have s0 := hB0.c0
  go_wp2_with fail
  clear s0
  refine wp_region_held (S := fun Y => Below w0.heap.size w0 Y) mixed ?_
  have hS0 : Below w0.heap.size w0 w0.drew := Below.drew (Below.refl _ _)
  rw [show Array.replicate (Array.size _) false = #[false, false, false, false, false, false, false, false] from rfl, show Array.size (α := Oper) _ = 8 from rfl]
  refine wpAnyH_take (i := 0) (v := tv 7 n (.slice at_ ts.length ct)) rfl (by kernel_rfl) (by kernel_rfl) (by kernel_rfl) (fun _ _ _ h => h) (Or.inl ⟨by rfl, ?_⟩) hS0 ?_
  · intro Y hY
    have b0 := (hY.cell (p := ⟨w.heap.size, 0, none⟩) hlt0).trans hB0.c0; have b1 := (hY.cell (p := ⟨w.heap.size, 1, none⟩) hlt0).trans hB0.c1; have b2 := (hY.cell (p := ⟨w.heap.size, 2, none⟩) hlt0).trans hB0.c2
    go_simp
  simp only [Act.put, List.getElem_toArray, List.getElem_cons_zero, List.setIfInBounds_toArray, List.set_cons_zero, List.set_cons_succ]
  refine wpAnyH_take (i := 1) (v := vv N (.slice ab bs.length cb) (.slice au us.length cu) p) rfl (by kernel_rfl) (by kernel_rfl) (by kernel_rfl) (fun _ _ _ h => h) (Or.inl ⟨by rfl, ?_⟩) hS0 ?_
  · intro Y hY
    have hAY := hA0.from_ hY hlt1; have a0 := hAY.c0; have a1 := hAY.c1; have a2 := hAY.c2; have a3 := hAY.c3; have a4 := hAY.c4; have a5 := hAY.c5; have a6 := hAY.c6; simp only [Nat.zero_add] at a1 a2 a3 a4 a5 a6
    go_simp
  simp only [Act.put, List.getElem_toArray, List.getElem_cons_succ, List.getElem_cons_zero, List.setIfInBounds_toArray, List.set_cons_zero, List.set_cons_succ]
  refine wpAnyH_take (i := 3) (v := .pointer (some ⟨w.heap.size, 2, none⟩)) rfl (by kernel_rfl) (by kernel_rfl) (by kernel_rfl) (fun _ _ _ h => h) (Or.inl ⟨by rfl, ?_⟩) hS0 ?_
  · intro Y hY
    skip
    go_simp
  simp only [Act.put, List.getElem_toArray, List.getElem_cons_succ, List.getElem_cons_zero, List.setIfInBounds_toArray, List.set_cons_zero, List.set_cons_succ]
  refine wpAnyH_take (i := 4) (v := .slice at_ ts.length ct) rfl (by kernel_rfl) (by kernel_rfl) (by kernel_rfl) (fun _ _ _ h => h) (Or.inl ⟨by rfl, ?_⟩) hS0 ?_
  · intro Y hY
    have b0 := (hY.cell (p := ⟨w.heap.size, 0, none⟩) hlt0).trans hB0.c0; have b1 := (hY.cell (p := ⟨w.heap.size, 1, none⟩) hlt0).trans hB0.c1; have b2 := (hY.cell (p := ⟨w.heap.size, 2, none⟩) hlt0).trans hB0.c2
    go_simp
  simp only [Act.put, List.getElem_toArray, List.getElem_cons_succ, List.getElem_cons_zero, List.setIfInBounds_toArray, List.set_cons_zero, List.set_cons_succ]
  refine wpAnyH_take (i := 5) (v := .int .i64 (ts.length : Nat)) rfl (by kernel_rfl) (by kernel_rfl) (by kernel_rfl) (fun _ _ _ h => h) (Or.inl ⟨by rfl, ?_⟩) hS0 ?_
  · intro Y hY
    skip
    go_simp
  simp only [Act.put, List.getElem_toArray, List.getElem_cons_succ, List.getElem_cons_zero, List.setIfInBounds_toArray, List.set_cons_zero, List.set_cons_succ]
  refine wpAnyH_ready (rs := [2]) (by kernel_rfl) (by simp) ?_
  refine AllReadyH.cons rfl (fun K hK => ?_) AllReadyH.nil
  go_simp
  refine (HRS.out _ hS0).mono ?_
  rintro e w1 ⟨⟨v1, rfl, hO⟩, hb1⟩
  have hS1 : Below w0.heap.size w0 w1 := hS0.trans (Below.mono hb1 hS0.size)
  obtain ⟨la, lc, hlv⟩ := hO.len
  subst hlv
  have HX := Lib.hid (HTR.out la lc w1 hO.ts)
  try go_wp2_with fail
  refine hK.out _ _ hS1 (fun _ => ?_)
  clear hK K
  simp only [List.setIfInBounds_toArray, List.set_cons_zero, List.set_cons_succ]
  refine wpAnyH_ready (rs := [6]) (by kernel_rfl) (by simp) ?_
  refine AllReadyH.cons rfl (fun K hK => ?_) AllReadyH.nil
  go_simp
  refine HX.out.mono ?_
  rintro e w2 ⟨rfl, hb2⟩
  have hS2 : Below w0.heap.size w0 w2 := hS1.trans (Below.mono hb2 hS1.size)
  try go_wp2_with fail
  refine hK.out _ _ hS2 (fun _ => ?_)
  clear hK K
  simp only [List.setIfInBounds_toArray, List.set_cons_zero, List.set_cons_succ]
  refine wpAnyH_ready (rs := [7]) (by kernel_rfl) (by simp) ?_
  refine AllReadyH.cons rfl (fun K hK => ?_) AllReadyH.nil
  go_simp
  refine hK.out _ _ hS2 (fun _ => ?_)
  clear hK K
  simp only [List.setIfInBounds_toArray, List.set_cons_zero, List.set_cons_succ]
  refine wpAnyH_done (by kernel_rfl) ?_ _
  go_wp2_with fail
  go_ret
  exact ⟨rfl, hb0.trans (Below.mono hS2 hb0.size)⟩
set_option maxRecDepth 100000 in
set_option maxHeartbeats 8000000 in
theorem rrow_o (z : Nat) (ih : Hid (ROfC z)) (k : Int) (m : Nat) (t : M.Ty) (at_ : Option Addr) (ct : Nat) (N : Nat) (bs : List Bool) (us : List M.Va) (p : Int) (ab : Option Addr) (cb : Nat) (au : Option Addr) (cu : Nat) (w : World) (hT : LayT w w.heap.size [t] (.slice at_ 1 ct)) (hV : Vl w w.heap.size N bs us ab cb au cu) (d : Nat) (hs : SizeOf.sizeOf us ≤ z + 1) (hk : k = 3 ∨ k = 4) (hc : M.chkT d (.mk k (m : Nat) [t]) = 0) (hf : M.fitV (.mk k (m : Nat) [t]) (.mk N bs us p) = 0) (hcnt : M.cntV (.mk N bs us p) ≤ 800) (hp : M.isPl t = false) :
    Calls Tryz.prog 60 #[tv k (m : Nat) (.slice at_ 1 ct), vv N (.slice ab bs.length cb) (.slice au us.length cu) p] w fun e w' => e = .returned (.string ⟨(M.rowR k (m : Nat) [t] p us).toArray⟩) ∧ Below w.heap.size w w' := by
  obtain ⟨⟨hn1, hn9⟩, hil, hfs⟩ := rows_few hk hc hf
  have hct : M.chkT (d + 1) t = 0 := M.chkTs_ok.1 (M.chkT_ok.1 hc).2.2.2 _ (by simp)
  have hcu : M.cntVs us ≤ 800 := by rw [M.cntV] at hcnt; omega
  obtain ⟨c, x, k', n', us', ua, uc, hat, hcn, hxt, e0, e1, e2, hLt⟩ := hT.at_ (i := 0) (by simp)
  subst hat
  obtain rfl : t = .mk k' n' us' := by simpa using hxt
  simp only [Nat.zero_mul, Nat.add_zero] at e0 e1 e2
  clear hxt
  obtain ⟨w0, hw0⟩ : ∃ w0, (w.alloc (.cells #[.int .i64 k, .int .i64 (m : Nat), .slice (some ⟨c, x, none⟩) 1 ct] 32)).alloc (.cells #[.int .u64 (M.pt 0 N), .int .u64 (M.pt 1 N), .int .u64 (M.pt 2 N), .int .u64 (M.pt 3 N), .slice ab bs.length cb, .slice au us.length cu, .int .i64 p] 38) = w0 := ⟨_, rfl⟩
  have hb0 : Below w.heap.size w w0 := by rw [← hw0]; exact two_boxes _ _ _
  have hz0 : w0.heap.size = w.heap.size + 2 := by rw [← hw0]; simp
  have hB0 : BoxT w0 w.heap.size k (m : Nat) (.slice (some ⟨c, x, none⟩) 1 ct) := by rw [← hw0]; exact ⟨by simp [go_sem], by simp [go_sem], by simp [go_sem]⟩
  have hA0 : Cells7 w0 (w.heap.size + 1) 0 N (.slice ab bs.length cb) (.slice au us.length cu) p := by
    rw [← hw0]
    have := Cells7.new (w.alloc (.cells #[.int .i64 k, .int .i64 (m : Nat), .slice (some ⟨c, x, none⟩) 1 ct] 32)) N (.slice ab bs.length cb) (.slice au us.length cu) p 38
    rwa [World.size_alloc] at this
  have hlt0 : w.heap.size < w0.heap.size := by omega
  have hlt1 : w.heap.size + 1 < w0.heap.size := by omega
  have HW := Lib.hid hw0
  have HZ0 := Lib.hid hz0
  have mixed : Tryz.prog.follows .mixedOrders = true := by kernel_rfl
  clear hw0 hz0
  have g0 := (hb0.cell (p := ⟨c, x, none⟩) hcn).trans e0
  have g1 := (hb0.cell (p := ⟨c, x + 1, none⟩) hcn).trans e1
  have g2 := (hb0.cell (p := ⟨c, x + 2, none⟩) hcn).trans e2
  have hcn0 : c < w0.heap.size := by omega
  have hk7 : (k == 7) = false := by rcases hk with rfl | rfl <;> rfl
  have hk7i : ¬ k = 7 := by omega
  have hk2 : (2 : Int) < k' := by
    have h1 := (M.chkT_ok.1 hct).1
    unfold M.isPl at hp
    simp [M.Ty.k] at hp
    omega
  have hall := M.roots_all k [.mk k' n' us'] p 0 us hfs
  have hrl := M.rootVs_length k [.mk k' n' us'] p us 0
  have hR : M.rowR k (m : Nat) [.mk k' n' us'] p us = M.treeT (M.rootVs k [.mk k' n' us'] p 0 us) m := by
    unfold M.rowR
    rw [if_neg (by rw [show ([M.Ty.mk k' n' us'][0]?.getD default : M.Ty) = .mk k' n' us' from rfl, hp]; decide), Int.toNat_natCast]
  rw [hR]
  have HRS := Lib.hid (fun X (h : Below w0.heap.size w0 X) => rroots_any z ih k (m : Nat) [.mk k' n' us'] (some ⟨c, x, none⟩) ct N bs us p ab cb au cu X ((hT.from_ (hb0.trans (h.mono hb0.size))).mono (hb0.trans (h.mono hb0.size)).size) ((hV.from_ (hb0.trans (h.mono hb0.size))).mono (hb0.trans (h.mono hb0.size)).size) d hs (by omega) hc hf hcnt)
  generalize M.rootVs k [.mk k' n' us'] p 0 us = E at *
  have HTR := Lib.hid (fun a' c' X (h : Ts X X.heap.size E (.slice a' E.length c')) => rtree_any E m a' c' X h hall (by omega) (pow_dep (by omega) (by omega)))
  clear hfs hall hc hf hcnt ih hs hR hp hk e0 e1 e2 hrl
  have r0 := g0
  have r1' := g1
  have r2' := g2
  rw [← HW.out] at r0 r1' r2'
  go_enter Tryz.func60, Tryz.ntmps60
  go_wp2_with fail
  rw [HW.out]
  clear r0 r1' r2'
  refine wp_region_held (S := fun Y => Below w0.heap.size w0 Y) mixed ?_
  have hS0 : Below w0.heap.size w0 w0.drew := Below.drew (Below.refl _ _)
  rw [show Array.replicate (Array.size _) false = #[false, false, false, false, false, false, false] from rfl, show Array.size (α := Oper) _ = 7 from rfl]
  refine wpAnyH_take (i := 0) (v := tv k (m : Nat) (.slice (some ⟨c, x, none⟩) 1 ct)) rfl (by kernel_rfl) (by kernel_rfl) (by kernel_rfl) (fun _ _ _ h => h) (Or.inl ⟨by rfl, ?_⟩) hS0 ?_
  · intro Y hY
    have b0 := (hY.cell (p := ⟨w.heap.size, 0, none⟩) hlt0).trans hB0.c0; have b1 := (hY.cell (p := ⟨w.heap.size, 1, none⟩) hlt0).trans hB0.c1; have b2 := (hY.cell (p := ⟨w.heap.size, 2, none⟩) hlt0).trans hB0.c2
    go_simp
  simp only [Act.put, List.getElem_toArray, List.getElem_cons_zero, List.setIfInBounds_toArray, List.set_cons_zero, List.set_cons_succ]
  refine wpAnyH_take (i := 1) (v := vv N (.slice ab bs.length cb) (.slice au us.length cu) p) rfl (by kernel_rfl) (by kernel_rfl) (by kernel_rfl) (fun _ _ _ h => h) (Or.inl ⟨by rfl, ?_⟩) hS0 ?_
  · intro Y hY
    have hAY := hA0.from_ hY hlt1; have a0 := hAY.c0; have a1 := hAY.c1; have a2 := hAY.c2; have a3 := hAY.c3; have a4 := hAY.c4; have a5 := hAY.c5; have a6 := hAY.c6; simp only [Nat.zero_add] at a1 a2 a3 a4 a5 a6
    go_simp
  simp only [Act.put, List.getElem_toArray, List.getElem_cons_succ, List.getElem_cons_zero, List.setIfInBounds_toArray, List.set_cons_zero, List.set_cons_succ]
  refine wpAnyH_take (i := 3) (v := .pointer (some ⟨w.heap.size, 1, none⟩)) rfl (by kernel_rfl) (by kernel_rfl) (by kernel_rfl) (fun _ _ _ h => h) (Or.inl ⟨by rfl, ?_⟩) hS0 ?_
  · intro Y hY
    skip
    go_simp
  simp only [Act.put, List.getElem_toArray, List.getElem_cons_succ, List.getElem_cons_zero, List.setIfInBounds_toArray, List.set_cons_zero, List.set_cons_succ]
  refine wpAnyH_take (i := 4) (v := .int .i64 (m : Nat)) rfl (by kernel_rfl) (by kernel_rfl) (by kernel_rfl) (fun _ _ _ h => h) (Or.inl ⟨by rfl, ?_⟩) hS0 ?_
  · intro Y hY
    have b0 := (hY.cell (p := ⟨w.heap.size, 0, none⟩) hlt0).trans hB0.c0; have b1 := (hY.cell (p := ⟨w.heap.size, 1, none⟩) hlt0).trans hB0.c1; have b2 := (hY.cell (p := ⟨w.heap.size, 2, none⟩) hlt0).trans hB0.c2
    go_simp
  simp only [Act.put, List.getElem_toArray, List.getElem_cons_succ, List.getElem_cons_zero, List.setIfInBounds_toArray, List.set_cons_zero, List.set_cons_succ]
  refine wpAnyH_ready (rs := [2]) (by kernel_rfl) (by simp) ?_
  refine AllReadyH.cons rfl (fun K hK => ?_) AllReadyH.nil
  go_simp
  refine (HRS.out _ hS0).mono ?_
  rintro e w1 ⟨⟨v1, rfl, hO⟩, hb1⟩
  have hS1 : Below w0.heap.size w0 w1 := hS0.trans (Below.mono hb1 hS0.size)
  obtain ⟨la, lc, hlv⟩ := hO.len
  subst hlv
  have HX := Lib.hid (HTR.out la lc w1 hO.ts)
  try go_wp2_with fail
  refine hK.out _ _ hS1 (fun _ => ?_)
  clear hK K
  simp only [List.setIfInBounds_toArray, List.set_cons_zero, List.set_cons_succ]
  refine wpAnyH_ready (rs := [5]) (by kernel_rfl) (by simp) ?_
  refine AllReadyH.cons rfl (fun K hK => ?_) AllReadyH.nil
  go_simp
  refine HX.out.mono ?_
  rintro e w2 ⟨rfl, hb2⟩
  have hS2 : Below w0.heap.size w0 w2 := hS1.trans (Below.mono hb2 hS1.size)
  try go_wp2_with fail
  refine hK.out _ _ hS2 (fun _ => ?_)
  clear hK K
  simp only [List.setIfInBounds_toArray, List.set_cons_zero, List.set_cons_succ]
  refine wpAnyH_ready (rs := [6]) (by kernel_rfl) (by simp) ?_
  refine AllReadyH.cons rfl (fun K hK => ?_) AllReadyH.nil
  go_simp
  refine hK.out _ _ hS2 (fun _ => ?_)
  clear hK K
  simp only [List.setIfInBounds_toArray, List.set_cons_zero, List.set_cons_succ]
  refine wpAnyH_done (by kernel_rfl) ?_ _
  go_wp2_with fail
  go_ret
  exact ⟨rfl, hb0.trans (Below.mono hS2 hb0.size)⟩
end Go.Proofs.YtaajkbclojmbeaaGreatDoor
namespace Go.Proofs.YtaajkbclojmbeaaGreatDoor
open Go Go.RowKit Go.Shelf Go.Lib
attribute [local go_sem] Oper.semAt_some

/-- What a round over plain items keeps. -/
def XH (w0 : World) (k : Int) (t : M.Ty) (p : Int) (us : List M.Va) (v i : Value) (wr : World) : Prop := ∃ j : Nat, j ≤ us.length ∧ i = .int .i64 (j : Nat) ∧ v = .string ⟨((M.putVs k [t] p 0 (us.take j)).flatMap (·.2)).toArray⟩ ∧ Below w0.heap.size w0 wr
set_option maxRecDepth 100000 in
set_option maxHeartbeats 8000000 in
theorem rrow_p (k : Int) (m : Nat) (t : M.Ty) (at_ : Option Addr) (ct : Nat) (N : Nat) (bs : List Bool) (us : List M.Va) (p : Int) (ab : Option Addr) (cb : Nat) (au : Option Addr) (cu : Nat) (w : World) (hT : LayT w w.heap.size [t] (.slice at_ 1 ct)) (hV : Vl w w.heap.size N bs us ab cb au cu) (d : Nat) (hk : k = 3 ∨ k = 4) (hc : M.chkT d (.mk k (m : Nat) [t]) = 0) (hf : M.fitV (.mk k (m : Nat) [t]) (.mk N bs us p) = 0) (hcnt : M.cntV (.mk N bs us p) ≤ 800) (hp : M.isPl t = true) :
    Calls Tryz.prog 60 #[tv k (m : Nat) (.slice at_ 1 ct), vv N (.slice ab bs.length cb) (.slice au us.length cu) p] w fun e w' => e = .returned (.string ⟨(M.rowR k (m : Nat) [t] p us).toArray⟩) ∧ Below w.heap.size w w' := by
  obtain ⟨⟨hn1, hn9⟩, hil, hfs⟩ := rows_few hk hc hf
  have hct : M.chkT (d + 1) t = 0 := M.chkTs_ok.1 (M.chkT_ok.1 hc).2.2.2 _ (by simp)
  have hcu : M.cntVs us ≤ 800 := by rw [M.cntV] at hcnt; omega
  obtain ⟨c, x, k', n', us', ua, uc, hat, hcn, hxt, e0, e1, e2, hLt⟩ := hT.at_ (i := 0) (by simp)
  subst hat
  obtain rfl : t = .mk k' n' us' := by simpa using hxt
  simp only [Nat.zero_mul, Nat.add_zero] at e0 e1 e2
  clear hxt
  obtain ⟨w0, hw0⟩ : ∃ w0, (w.alloc (.cells #[.int .i64 k, .int .i64 (m : Nat), .slice (some ⟨c, x, none⟩) 1 ct] 32)).alloc (.cells #[.int .u64 (M.pt 0 N), .int .u64 (M.pt 1 N), .int .u64 (M.pt 2 N), .int .u64 (M.pt 3 N), .slice ab bs.length cb, .slice au us.length cu, .int .i64 p] 38) = w0 := ⟨_, rfl⟩
  have hb0 : Below w.heap.size w w0 := by rw [← hw0]; exact two_boxes _ _ _
  have hz0 : w0.heap.size = w.heap.size + 2 := by rw [← hw0]; simp
  have hB0 : BoxT w0 w.heap.size k (m : Nat) (.slice (some ⟨c, x, none⟩) 1 ct) := by rw [← hw0]; exact ⟨by simp [go_sem], by simp [go_sem], by simp [go_sem]⟩
  have hA0 : Cells7 w0 (w.heap.size + 1) 0 N (.slice ab bs.length cb) (.slice au us.length cu) p := by
    rw [← hw0]
    have := Cells7.new (w.alloc (.cells #[.int .i64 k, .int .i64 (m : Nat), .slice (some ⟨c, x, none⟩) 1 ct] 32)) N (.slice ab bs.length cb) (.slice au us.length cu) p 38
    rwa [World.size_alloc] at this
  have hlt0 : w.heap.size < w0.heap.size := by omega
  have hlt1 : w.heap.size + 1 < w0.heap.size := by omega
  have HW := Lib.hid hw0
  have HZ0 := Lib.hid hz0
  have mixed : Tryz.prog.follows .mixedOrders = true := by kernel_rfl
  clear hw0 hz0
  have g0 := (hb0.cell (p := ⟨c, x, none⟩) hcn).trans e0
  have g1 := (hb0.cell (p := ⟨c, x + 1, none⟩) hcn).trans e1
  have g2 := (hb0.cell (p := ⟨c, x + 2, none⟩) hcn).trans e2
  have hcn0 : c < w0.heap.size := by omega
  have hk7 : (k == 7) = false := by rcases hk with rfl | rfl <;> rfl
  have hk7i : ¬ k = 7 := by omega
  have hk2 : ¬ (2 : Int) < k' := by
    unfold M.isPl at hp
    simp [M.Ty.k] at hp
    omega
  obtain ⟨_, hz32, hz1, hfx⟩ := M.kind_plain hct hp
  have HIN : Hid (∀ j, M.inT k [.mk k' n' us'] p j = .mk k' n' us') := fun j => M.in_34 hk _ p j
  have HSL : Hid (∀ j, j ≤ us.length → ((M.putVs k [.mk k' n' us'] p 0 (us.take j)).flatMap (·.2)).length = j * M.szT (.mk k' n' us')) := fun j hj => by
    rw [(M.put_plain (n := (m : Nat)) (num := N) (bits := bs) hk hct hp).2, List.length_take, Nat.min_eq_left hj]
  obtain ⟨S, hS⟩ : ∃ S, (M.putVs k [.mk k' n' us'] p 0 us).flatMap (·.2) = S := ⟨_, rfl⟩
  obtain ⟨sz, hsz⟩ : ∃ sz, M.szT (.mk k' n' us') = sz := ⟨_, rfl⟩
  rw [hsz] at hz32 hz1 HSL
  have hSl : S.length = us.length * sz := by have := HSL.out us.length (Nat.le_refl _); rw [List.take_length, hS] at this; exact this
  obtain ⟨q, hq⟩ : ∃ q, m * sz = q := ⟨_, rfl⟩
  have hSq : S.length ≤ q := by rw [hSl, ← hq]; exact Nat.mul_le_mul (by omega) (Nat.le_refl _)
  have hq9 : q ≤ 16384 := by rw [← hq]; exact Nat.le_trans (Nat.mul_le_mul (show m ≤ 512 by omega) hz32) (by decide)
  have hmq : (m : Int) * (sz : Int) = (q : Int) := by rw [← hq]; push_cast; rfl
  obtain ⟨r, hr⟩ : ∃ r, (q + 31) / 32 = r := ⟨_, rfl⟩
  have r1 : ((q : Int) + 31).tdiv 32 = (r : Int) := by rw [Int.tdiv_eq_ediv_of_nonneg (by omega)]; omega
  have r2 : ((q : Int) + 31) / 32 = (r : Int) := by omega
  have hR : M.rowR k (m : Nat) [.mk k' n' us'] p us = M.treeT (M.chunksT S) r := by
    unfold M.rowR
    rw [if_pos (by rw [show ([M.Ty.mk k' n' us'][0]?.getD default : M.Ty) = .mk k' n' us' from rfl, hp]), Int.toNat_natCast, hS, show ([M.Ty.mk k' n' us'][0]?.getD default : M.Ty) = .mk k' n' us' from rfl, hsz, hq]
    unfold M.packT
    rw [hr]
  rw [hR]
  have HSZ := Lib.hid (fun X (h : Below w0.heap.size w0 X) => tsize_any k' n' us' ua uc X ((hLt.from_ (hb0.trans (h.mono hb0.size))).mono (hb0.trans (h.mono hb0.size)).size))
  have hszT : M.sizeT (.mk k' n' us') = sz := by
    rw [← hsz]
    exact M.sizeT_fix (by rw [M.fixedT, if_pos (M.chkT_mono _ (d + 1) 0 hct (by omega))]; exact hfx)
  rw [hszT] at HSZ
  have HCH := Lib.hid (fun X => rchunks_any S X (by omega))
  have hcl := M.chunks_length S
  have HTR := Lib.hid (fun a' c' X (h : Ts X X.heap.size (M.chunksT S) (.slice a' (M.chunksT S).length c')) => rtree_any (M.chunksT S) r a' c' X h (M.chunks_all S) (by omega) (pow_dep (by omega) (by omega)))
  have HSS := Lib.hid hS
  have HBY := Lib.hid (fun N' bs' vs' p' ab' cb' av' cv' X (h : Below w0.heap.size w0 X) (hv : Vl X X.heap.size N' bs' vs' ab' cb' av' cv') hf' hc' => zbytes_n _ k' n' us' ua uc (d + 1) N' bs' vs' p' ab' cb' av' cv' X (Nat.le_refl _) ((hLt.from_ (hb0.trans (h.mono hb0.size))).mono (hb0.trans (h.mono hb0.size)).size) hv hct hf' hc')
  have hul : us.length ≤ 512 := by omega
  clear hc hf hcnt hR hp hk e0 e1 e2 hS hSl hsz hszT hcl hr hfx hSq
  have r0 := g0
  have r1' := g1
  have r2' := g2
  rw [← HW.out] at r0 r1' r2'
  go_enter Tryz.func60, Tryz.ntmps60
  go_wp2_with fail
  rw [HW.out]
  clear r0 r1' r2'
  go_loopw [5, 6] (fun v i wr => XH w0 k (.mk k' n' us') p us v i wr) (fun _ i _ => us.length - (RowKit.intOf i).toNat)
  case atStart => exact ⟨0, Nat.zero_le _, rfl, by rw [List.take_zero, M.putVs]; rfl, Below.refl _ _⟩
  case round =>
    obtain ⟨j, hj, rfl, rfl, hbr⟩ := hrel
    have hAr := hA0.from_ hbr hlt1
    have a0 := hAr.c0
    have a1 := hAr.c1
    have a2 := hAr.c2
    have a3 := hAr.c3
    have a4 := hAr.c4
    have a5 := hAr.c5
    have a6 := hAr.c6
    simp only [Nat.zero_add] at a1 a2 a3 a4 a5 a6
    obtain ⟨T, hTT⟩ : ∃ T, (M.putVs k [.mk k' n' us'] p 0 (us.take j)).flatMap (·.2) = T := ⟨_, rfl⟩
    have hTl := HSL.out j hj
    rw [hTT] at hTl ⊢
    have hTl9 : T.length ≤ 16384 := by rw [hTl]; exact Nat.le_trans (Nat.mul_le_mul (show j ≤ 512 by omega) hz32) (by decide)
    by_cases hlt : j < us.length
    · obtain ⟨bv, ov, N', bs', vs', p', ab', cb', av', cv', hau, hbv0, hxk, hEc, hV'⟩ := hV.v.at_ hlt
      subst hau
      have hfj := M.fitVs_at k [.mk k' n' us'] p us 0 j _ hfs hxk
      rw [HIN.out] at hfj
      have hcj := M.cntV_part (List.mem_of_getElem? hxk)
      have hn := M.putVs_next k [.mk k' n' us'] p hxk
      rw [HIN.out] at hn
      have hql := M.put_len (.mk k' n' us') (M.chk_small _ _ hct) (.mk N' bs' vs' p')
      have HC := Lib.hid (fun X (h : Below w0.heap.size w0 X) => HBY.out N' bs' vs' p' ab' cb' av' cv' X h ((hV'.from_ (hb0.trans (h.mono hb0.size))).mono (hb0.trans (h.mono hb0.size)).size) hfj (by omega))
      generalize M.putV (.mk k' n' us') (.mk N' bs' vs' p') = u at *
      have hul2 : u.length ≤ 32000 := by omega
      obtain ⟨T2, hT2⟩ : ∃ T2, T ++ u = T2 := ⟨_, rfl⟩
      have hcat : (⟨T.toArray⟩ : ByteArray) ++ ⟨u.toArray⟩ = ⟨T2.toArray⟩ := by rw [← hT2]; apply ByteArray.ext; simp
      have HNX : Hid ((M.putVs k [.mk k' n' us'] p 0 (us.take (j + 1))).flatMap (·.2) = T2) := by
        show _ = _
        rw [hn, List.flatMap_append, hTT, ← hT2]
        simp
      have hbv1 : bv < w0.heap.size := by have := hb0.size; omega
      have hE0 := hEc.from_ hb0 hbv0
      have hjI : (j : Int) < us.length := by omega
      clear hxk hfj hcj hV' hEc hn hql hTT hTl hT2
      go_wp2_with fail
      clear a0 a1 a2 a3 a4 a5 a6
      refine wp_region_held (S := fun Y => Below w0.heap.size w0 Y) mixed ?_
      have hS0 : Below w0.heap.size w0 wr.drew := Below.drew hbr
      rw [show Array.replicate (Array.size _) false = #[false, false, false, false, false, false, false, false, false, false, false, false, false] from rfl, show Array.size (α := Oper) _ = 13 from rfl]
      refine wpAnyH_take (i := 0) (v := .string ⟨T.toArray⟩) rfl (by kernel_rfl) (by kernel_rfl) (by kernel_rfl) (fun _ _ _ h => h) (Or.inl ⟨by rfl, ?_⟩) hS0 ?_
      · intro Y hY
        skip
        go_simp
      simp only [Act.put, List.getElem_toArray, List.getElem_cons_zero, List.setIfInBounds_toArray, List.set_cons_zero, List.set_cons_succ]
      refine wpAnyH_take (i := 1) (v := .pointer (some ⟨w.heap.size, 2, none⟩)) rfl (by kernel_rfl) (by kernel_rfl) (by kernel_rfl) (fun _ _ _ h => h) (Or.inl ⟨by rfl, ?_⟩) hS0 ?_
      · intro Y hY
        skip
        go_simp
      simp only [Act.put, List.getElem_toArray, List.getElem_cons_succ, List.getElem_cons_zero, List.setIfInBounds_toArray, List.set_cons_zero, List.set_cons_succ]
      refine wpAnyH_take (i := 2) (v := .slice (some ⟨c, x, none⟩) 1 ct) rfl (by kernel_rfl) (by kernel_rfl) (by kernel_rfl) (fun _ _ _ h => h) (Or.inl ⟨by rfl, ?_⟩) hS0 ?_
      · intro Y hY
        have b0 := (hY.cell (p := ⟨w.heap.size, 0, none⟩) hlt0).trans hB0.c0; have b1 := (hY.cell (p := ⟨w.heap.size, 1, none⟩) hlt0).trans hB0.c1; have b2 := (hY.cell (p := ⟨w.heap.size, 2, none⟩) hlt0).trans hB0.c2
        go_simp
      simp only [Act.put, List.getElem_toArray, List.getElem_cons_succ, List.getElem_cons_zero, List.setIfInBounds_toArray, List.set_cons_zero, List.set_cons_succ]
      refine wpAnyH_take (i := 3) (v := .pointer (some ⟨c, x, none⟩)) rfl (by kernel_rfl) (by kernel_rfl) (by kernel_rfl) (fun _ _ _ h => h) (Or.inl ⟨by rfl, ?_⟩) hS0 ?_
      · intro Y hY
        skip
        go_simp
      simp only [Act.put, List.getElem_toArray, List.getElem_cons_succ, List.getElem_cons_zero, List.setIfInBounds_toArray, List.set_cons_zero, List.set_cons_succ]
      refine wpAnyH_take (i := 4) (v := tv k' n' (.slice ua us'.length uc)) rfl (by kernel_rfl) (by kernel_rfl) (by kernel_rfl) (fun _ _ _ h => h) (Or.inl ⟨by rfl, ?_⟩) hS0 ?_
      · intro Y hY
        have f0 := (hY.cell (p := ⟨c, x, none⟩) hcn0).trans g0; have f1 := (hY.cell (p := ⟨c, x + 1, none⟩) hcn0).trans g1; have f2 := (hY.cell (p := ⟨c, x + 2, none⟩) hcn0).trans g2
        go_simp
      simp only [Act.put, List.getElem_toArray, List.getElem_cons_succ, List.getElem_cons_zero, List.setIfInBounds_toArray, List.set_cons_zero, List.set_cons_succ]
      refine wpAnyH_take (i := 5) (v := .pointer (some ⟨w.heap.size + 1, 5, none⟩)) rfl (by kernel_rfl) (by kernel_rfl) (by kernel_rfl) (fun _ _ _ h => h) (Or.inl ⟨by rfl, ?_⟩) hS0 ?_
      · intro Y hY
        skip
        go_simp
      simp only [Act.put, List.getElem_toArray, List.getElem_cons_succ, List.getElem_cons_zero, List.setIfInBounds_toArray, List.set_cons_zero, List.set_cons_succ]
      refine wpAnyH_take (i := 6) (v := .slice (some ⟨bv, ov, none⟩) us.length cu) rfl (by kernel_rfl) (by kernel_rfl) (by kernel_rfl) (fun _ _ _ h => h) (Or.inl ⟨by rfl, ?_⟩) hS0 ?_
      · intro Y hY
        have hAY := hA0.from_ hY hlt1; have a0 := hAY.c0; have a1 := hAY.c1; have a2 := hAY.c2; have a3 := hAY.c3; have a4 := hAY.c4; have a5 := hAY.c5; have a6 := hAY.c6; simp only [Nat.zero_add] at a1 a2 a3 a4 a5 a6
        go_simp
      simp only [Act.put, List.getElem_toArray, List.getElem_cons_succ, List.getElem_cons_zero, List.setIfInBounds_toArray, List.set_cons_zero, List.set_cons_succ]
      refine wpAnyH_take (i := 7) (v := .int .i64 (j : Nat)) rfl (by kernel_rfl) (by kernel_rfl) (by kernel_rfl) (fun _ _ _ h => h) (Or.inl ⟨by rfl, ?_⟩) hS0 ?_
      · intro Y hY
        skip
        go_simp
      simp only [Act.put, List.getElem_toArray, List.getElem_cons_succ, List.getElem_cons_zero, List.setIfInBounds_toArray, List.set_cons_zero, List.set_cons_succ]
      refine wpAnyH_take (i := 8) (v := .pointer (some ⟨bv, ov + j * 7, none⟩)) rfl (by kernel_rfl) (by kernel_rfl) (by kernel_rfl) (fun _ _ _ h => h) (Or.inl ⟨by rfl, ?_⟩) hS0 ?_
      · intro Y hY
        skip
        go_simp
        try (intro h; omega)
      simp only [Act.put, List.getElem_toArray, List.getElem_cons_succ, List.getElem_cons_zero, List.setIfInBounds_toArray, List.set_cons_zero, List.set_cons_succ]
      refine wpAnyH_take (i := 9) (v := vv N' (.slice ab' bs'.length cb') (.slice av' vs'.length cv') p') rfl (by kernel_rfl) (by kernel_rfl) (by kernel_rfl) (fun _ _ _ h => h) (Or.inl ⟨by rfl, ?_⟩) hS0 ?_
      · intro Y hY
        have zc := hE0.from_ hY hbv1; have c0 := zc.c0; have c1 := zc.c1; have c2 := zc.c2; have c3 := zc.c3; have c4 := zc.c4; have c5 := zc.c5; have c6 := zc.c6
        go_simp
      simp only [Act.put, List.getElem_toArray, List.getElem_cons_succ, List.getElem_cons_zero, List.setIfInBounds_toArray, List.set_cons_zero, List.set_cons_succ]
      refine wpAnyH_ready (rs := [10]) (by kernel_rfl) (by simp) ?_
      refine AllReadyH.cons rfl (fun K hK => ?_) AllReadyH.nil
      go_simp
      refine (HC.out _ hS0).mono ?_
      rintro e w4 ⟨rfl, hb4⟩
      have hS4 : Below w0.heap.size w0 w4 := hS0.trans (Below.mono hb4 hS0.size)
      try go_wp2_with fail
      refine hK.out _ _ hS4 (fun _ => ?_)
      clear hK K
      simp only [List.setIfInBounds_toArray, List.set_cons_zero, List.set_cons_succ]
      refine wpAnyH_take (i := 11) (v := .string ⟨T2.toArray⟩) rfl (by kernel_rfl) (by kernel_rfl) (by kernel_rfl) (fun _ _ _ h => h) (Or.inl ⟨by rfl, ?_⟩) hS4 ?_
      · intro Y hY
        skip
        go_simp
        try rw [hcat]
        try omega
      simp only [Act.put, List.getElem_toArray, List.getElem_cons_succ, List.getElem_cons_zero, List.setIfInBounds_toArray, List.set_cons_zero, List.set_cons_succ]
      refine wpAnyH_ready (rs := [12]) (by kernel_rfl) (by simp) ?_
      refine AllReadyH.cons rfl (fun K hK => ?_) AllReadyH.nil
      go_simp
      refine hK.out _ _ hS4 (fun _ => ?_)
      clear hK K
      simp only [List.setIfInBounds_toArray, List.set_cons_zero, List.set_cons_succ]
      refine wpAnyH_done (by kernel_rfl) ?_ _
      have HS7 := Lib.hid hS4
      clear hS4 hS0
      go_wp2_with fail
      exact ⟨⟨j + 1, by omega, by push_cast; rfl, by rw [HNX.out], HS7.out⟩, by simp [RowKit.intOf]; omega⟩
    · obtain rfl : j = us.length := by omega
      have hjI : ¬ (us.length : Int) < us.length := by omega
      rw [List.take_length, HSS.out] at hTT
      subst hTT
      go_wp2_with fail
      clear a0 a1 a2 a3 a4 a5 a6
      refine wp_region_held (S := fun Y => Below w0.heap.size w0 Y) mixed ?_
      have hS0 : Below w0.heap.size w0 wr.drew := Below.drew hbr
      rw [show Array.replicate (Array.size _) false = #[false, false, false, false, false, false, false, false, false, false, false, false, false, false] from rfl, show Array.size (α := Oper) _ = 14 from rfl]
      refine wpAnyH_take (i := 0) (v := .string ⟨S.toArray⟩) rfl (by kernel_rfl) (by kernel_rfl) (by kernel_rfl) (fun _ _ _ h => h) (Or.inl ⟨by rfl, ?_⟩) hS0 ?_
      · intro Y hY
        skip
        go_simp
      simp only [Act.put, List.getElem_toArray, List.getElem_cons_zero, List.setIfInBounds_toArray, List.set_cons_zero, List.set_cons_succ]
      refine wpAnyH_take (i := 2) (v := .pointer (some ⟨w.heap.size, 1, none⟩)) rfl (by kernel_rfl) (by kernel_rfl) (by kernel_rfl) (fun _ _ _ h => h) (Or.inl ⟨by rfl, ?_⟩) hS0 ?_
      · intro Y hY
        skip
        go_simp
      simp only [Act.put, List.getElem_toArray, List.getElem_cons_succ, List.getElem_cons_zero, List.setIfInBounds_toArray, List.set_cons_zero, List.set_cons_succ]
      refine wpAnyH_take (i := 3) (v := .int .i64 (m : Nat)) rfl (by kernel_rfl) (by kernel_rfl) (by kernel_rfl) (fun _ _ _ h => h) (Or.inl ⟨by rfl, ?_⟩) hS0 ?_
      · intro Y hY
        have b0 := (hY.cell (p := ⟨w.heap.size, 0, none⟩) hlt0).trans hB0.c0; have b1 := (hY.cell (p := ⟨w.heap.size, 1, none⟩) hlt0).trans hB0.c1; have b2 := (hY.cell (p := ⟨w.heap.size, 2, none⟩) hlt0).trans hB0.c2
        go_simp
      simp only [Act.put, List.getElem_toArray, List.getElem_cons_succ, List.getElem_cons_zero, List.setIfInBounds_toArray, List.set_cons_zero, List.set_cons_succ]
      refine wpAnyH_take (i := 4) (v := .pointer (some ⟨w.heap.size, 2, none⟩)) rfl (by kernel_rfl) (by kernel_rfl) (by kernel_rfl) (fun _ _ _ h => h) (Or.inl ⟨by rfl, ?_⟩) hS0 ?_
      · intro Y hY
        skip
        go_simp
      simp only [Act.put, List.getElem_toArray, List.getElem_cons_succ, List.getElem_cons_zero, List.setIfInBounds_toArray, List.set_cons_zero, List.set_cons_succ]
      refine wpAnyH_take (i := 5) (v := .slice (some ⟨c, x, none⟩) 1 ct) rfl (by kernel_rfl) (by kernel_rfl) (by kernel_rfl) (fun _ _ _ h => h) (Or.inl ⟨by rfl, ?_⟩) hS0 ?_
      · intro Y hY
        have b0 := (hY.cell (p := ⟨w.heap.size, 0, none⟩) hlt0).trans hB0.c0; have b1 := (hY.cell (p := ⟨w.heap.size, 1, none⟩) hlt0).trans hB0.c1; have b2 := (hY.cell (p := ⟨w.heap.size, 2, none⟩) hlt0).trans hB0.c2
        go_simp
      simp only [Act.put, List.getElem_toArray, List.getElem_cons_succ, List.getElem_cons_zero, List.setIfInBounds_toArray, List.set_cons_zero, List.set_cons_succ]
      refine wpAnyH_take (i := 6) (v := .pointer (some ⟨c, x, none⟩)) rfl (by kernel_rfl) (by kernel_rfl) (by kernel_rfl) (fun _ _ _ h => h) (Or.inl ⟨by rfl, ?_⟩) hS0 ?_
      · intro Y hY
        skip
        go_simp
      simp only [Act.put, List.getElem_toArray, List.getElem_cons_succ, List.getElem_cons_zero, List.setIfInBounds_toArray, List.set_cons_zero, List.set_cons_succ]
      refine wpAnyH_take (i := 7) (v := tv k' n' (.slice ua us'.length uc)) rfl (by kernel_rfl) (by kernel_rfl) (by kernel_rfl) (fun _ _ _ h => h) (Or.inl ⟨by rfl, ?_⟩) hS0 ?_
      · intro Y hY
        have f0 := (hY.cell (p := ⟨c, x, none⟩) hcn0).trans g0; have f1 := (hY.cell (p := ⟨c, x + 1, none⟩) hcn0).trans g1; have f2 := (hY.cell (p := ⟨c, x + 2, none⟩) hcn0).trans g2
        go_simp
      simp only [Act.put, List.getElem_toArray, List.getElem_cons_succ, List.getElem_cons_zero, List.setIfInBounds_toArray, List.set_cons_zero, List.set_cons_succ]
      refine wpAnyH_ready (rs := [1]) (by kernel_rfl) (by simp) ?_
      refine AllReadyH.cons rfl (fun K hK => ?_) AllReadyH.nil
      go_simp
      refine (HCH.out _).mono ?_
      rintro e w1 ⟨⟨v1, rfl, hO⟩, hb1⟩
      have hS1 : Below w0.heap.size w0 w1 := hS0.trans (Below.mono hb1 hS0.size)
      obtain ⟨la, lc, hlv⟩ := hO.len
      subst hlv
      try go_wp2_with fail
      refine hK.out _ _ hS1 (fun _ => ?_)
      clear hK K
      simp only [List.setIfInBounds_toArray, List.set_cons_zero, List.set_cons_succ]
      refine wpAnyH_ready (rs := [8]) (by kernel_rfl) (by simp) ?_
      refine AllReadyH.cons rfl (fun K hK => ?_) AllReadyH.nil
      go_simp
      refine (HSZ.out _ hS1).mono ?_
      rintro e w2 ⟨rfl, hb2⟩
      have hS2 : Below w0.heap.size w0 w2 := hS1.trans (Below.mono hb2 hS1.size)
      have HX := Lib.hid (HTR.out la lc w2 ((hO.from_ hb2).ts))
      try go_wp2_with fail
      refine hK.out _ _ hS2 (fun _ => ?_)
      clear hK K
      simp only [List.setIfInBounds_toArray, List.set_cons_zero, List.set_cons_succ]
      refine wpAnyH_take (i := 9) (v := .int .i64 (q : Nat)) rfl (by kernel_rfl) (by kernel_rfl) (by kernel_rfl) (fun _ _ _ h => h) (Or.inl ⟨by rfl, ?_⟩) hS2 ?_
      · intro Y hY
        skip
        go_simp
        try rw [hmq]
        try rw [IntKind.wrap_i64]
        try omega
      simp only [Act.put, List.getElem_toArray, List.getElem_cons_succ, List.getElem_cons_zero, List.setIfInBounds_toArray, List.set_cons_zero, List.set_cons_succ]
      refine wpAnyH_take (i := 10) (v := .int .i64 ((q : Int) + 31)) rfl (by kernel_rfl) (by kernel_rfl) (by kernel_rfl) (fun _ _ _ h => h) (Or.inl ⟨by rfl, ?_⟩) hS2 ?_
      · intro Y hY
        skip
        go_simp
        try rw [IntKind.wrap_i64]
        try omega
      simp only [Act.put, List.getElem_toArray, List.getElem_cons_succ, List.getElem_cons_zero, List.setIfInBounds_toArray, List.set_cons_zero, List.set_cons_succ]
      refine wpAnyH_take (i := 11) (v := .int .i64 (r : Nat)) rfl (by kernel_rfl) (by kernel_rfl) (by kernel_rfl) (fun _ _ _ h => h) (Or.inl ⟨by rfl, ?_⟩) hS2 ?_
      · intro Y hY
        skip
        go_simp
        try rw [r1]
        try rw [IntKind.wrap_i64]
        try omega
      simp only [Act.put, List.getElem_toArray, List.getElem_cons_succ, List.getElem_cons_zero, List.setIfInBounds_toArray, List.set_cons_zero, List.set_cons_succ]
      refine wpAnyH_ready (rs := [12]) (by kernel_rfl) (by simp) ?_
      refine AllReadyH.cons rfl (fun K hK => ?_) AllReadyH.nil
      go_simp
      refine HX.out.mono ?_
      rintro e w3 ⟨rfl, hb3⟩
      have hS3 : Below w0.heap.size w0 w3 := hS2.trans (Below.mono hb3 hS2.size)
      try go_wp2_with fail
      refine hK.out _ _ hS3 (fun _ => ?_)
      clear hK K
      simp only [List.setIfInBounds_toArray, List.set_cons_zero, List.set_cons_succ]
      refine wpAnyH_ready (rs := [13]) (by kernel_rfl) (by simp) ?_
      refine AllReadyH.cons rfl (fun K hK => ?_) AllReadyH.nil
      go_simp
      refine hK.out _ _ hS3 (fun _ => ?_)
      clear hK K
      simp only [List.setIfInBounds_toArray, List.set_cons_zero, List.set_cons_succ]
      refine wpAnyH_done (by kernel_rfl) ?_ _
      go_wp2_with fail
      go_ret
      exact ⟨rfl, hb0.trans (Below.mono hS3 hb0.size)⟩
end Go.Proofs.YtaajkbclojmbeaaGreatDoor
