/- The reference's begin. -/
import Derived.Test.YtemnjoiajmcpjaaGreatDoorZ2g
import Derived.Test.YtemnjoiajmcpjaaGreatDoorK05
namespace Go.Proofs.YtemnjoiajmcpjaaGreatDoor
open Go Go.RowKit

theorem M.ins_few {k n : Int} {ts : List M.Ty} {d : Nat} (h : M.chkT d (.mk k n ts) = 0) : ts.length ≤ 4000 := by
  obtain ⟨_, h2, _, _⟩ := M.chkT_ok.1 h
  unfold M.formT at h2
  split at h2
  · simp at h2; simp [h2]
  · split at h2
    · simp at h2; simp [h2]
    · split at h2
      · simp at h2; omega
      · split at h2
        · simp at h2; simp [h2]
        · split at h2
          · simp at h2; omega
          · simp at h2; omega
/-- Is there a type for an item, by its place? -/
def M.place (k : Int) (m : Nat) (p : Int) (i : Nat) : Prop := (k = 7 ∧ i < m) ∨ (k = 8 ∧ 0 ≤ p ∧ p < m) ∨ (k ≠ 7 ∧ k ≠ 8 ∧ 0 < m)
/-- An item's type, by its place. -/
theorem zin_at {k n : Int} {ts : List M.Ty} {at_ : Option Addr} {ct : Nat} {p : Int} {i d : Nat} {w : World} (hT : LayT w w.heap.size ts (.slice at_ ts.length ct)) (hc : M.chkT d (.mk k n ts) = 0) (hp : M.place k ts.length p i) :
    ∃ (k' m' : Int) (ts' : List M.Ty) (at' : Option Addr) (ct' : Nat), M.inT k ts p i = .mk k' m' ts' ∧ M.chkT (d + 1) (.mk k' m' ts') = 0 ∧ .mk k' m' ts' ∈ ts ∧ LayT w w.heap.size ts' (.slice at' ts'.length ct') ∧
      ∀ W, Below w.heap.size w W → ∀ N ub uv, Calls Tryz.prog 49 #[tv k n (.slice at_ ts.length ct), vv N ub uv p, .int .i64 i] W fun e w' => e = .returned (tv k' m' (.slice at' ts'.length ct')) ∧ Below W.heap.size W w' := by
  obtain ⟨j, hj, hin, hor⟩ : ∃ j, j < ts.length ∧ M.inT k ts p i = ts[j]?.getD default ∧ ((k = 7 ∧ i = j) ∨ (k ≠ 7 ∧ k = 8 ∧ p = j) ∨ (k ≠ 7 ∧ k ≠ 8 ∧ j = 0)) := by
    rcases hp with ⟨h, hi⟩ | ⟨h, h0, h1⟩ | ⟨h7, h8, h0⟩
    · exact ⟨i, hi, by unfold M.inT; rw [if_pos h], .inl ⟨h, rfl⟩⟩
    · exact ⟨p.toNat, by omega, by unfold M.inT; rw [if_neg (by omega), if_pos h], .inr (.inl ⟨by omega, h, by omega⟩)⟩
    · exact ⟨0, h0, by unfold M.inT; rw [if_neg h7, if_neg h8], .inr (.inr ⟨h7, h8, rfl⟩)⟩
  obtain ⟨b, o, k', m', ts', at', ct', rfl, hbn, hti, e0, e1, e2, hT'⟩ := hT.at_ hj
  have hmem := List.mem_of_getElem? hti
  refine ⟨k', m', ts', at', ct', by rw [hin, hti]; rfl, M.chkTs_ok.1 (M.chkT_ok.1 hc).2.2.2 _ hmem, hmem, hT', fun W h N ub uv => ?_⟩
  exact tin_any k n ts.length ct b o N ub uv p i j k' m' at' ts'.length ct' W hj (Nat.lt_of_lt_of_le hbn h.size) (M.ins_few hc) hor ((h.cell (p := ⟨b, o + j * 3, none⟩) hbn).trans e0) ((h.cell (p := ⟨b, o + j * 3 + 1, none⟩) hbn).trans e1) ((h.cell (p := ⟨b, o + j * 3 + 2, none⟩) hbn).trans e2)
/-- The kinds of so many items. -/
def M.kds (k : Int) (ts : List M.Ty) (p : Int) (m : Nat) : List (Option Nat) := (List.range m).map fun i => M.kindOf (M.inT k ts p i)
theorem M.kds_succ (k : Int) (ts : List M.Ty) (p : Int) (m : Nat) : M.kds k ts p (m + 1) = M.kds k ts p m ++ [M.kindOf (M.inT k ts p m)] := by simp [M.kds, List.range_succ]
theorem M.hdLen_append : ∀ (a b : List (Option Nat)), M.hdLen (a ++ b) = M.hdLen a + M.hdLen b
  | [], b => by rw [List.nil_append, M.hdLen]; omega
  | some z :: a, b => by rw [List.cons_append, M.hdLen, M.hdLen, M.hdLen_append a b]; omega
  | none :: a, b => by rw [List.cons_append, M.hdLen, M.hdLen, M.hdLen_append a b]; omega
theorem M.hd_one {t : M.Ty} (hc : M.chkT 1 t = 0) : M.hdLen [M.kindOf t] ≤ 2251799813685248 := by
  unfold M.kindOf
  split
  · have := M.szT_most t 1 hc
    rw [M.hdLen, M.hdLen]
    omega
  · rw [M.hdLen, M.hdLen]; omega
theorem M.hd_fix {t : M.Ty} (hc : M.chkT 1 t = 0) : M.hdLen [M.kindOf t] = if M.fixedT t = true then M.sizeT t else 4 := by
  have hc0 := M.chkT_mono t 1 0 hc (by omega)
  have e : M.fixedT t = M.fixT t := by rw [M.fixedT, if_pos hc0]
  unfold M.kindOf
  rw [e]
  split
  · rename_i hf
    rw [M.hdLen, M.hdLen, M.sizeT, e, if_pos hf]
    omega
  · rw [M.hdLen, M.hdLen]

set_option maxRecDepth 100000 in
set_option maxHeartbeats 4000000 in
theorem zbegin_any (k n : Int) (ts : List M.Ty) (at_ : Option Addr) (ct : Nat) (N : Nat) (ub uv : Value) (p : Int) (many : Nat) (w : World) (hT : LayT w w.heap.size ts (.slice at_ ts.length ct)) (hc : M.chkT 0 (.mk k n ts) = 0) (hm : many ≤ 1000) (hp : ∀ i, i < many → M.place k ts.length p i) :
    Calls Tryz.prog 48 #[tv k n (.slice at_ ts.length ct), vv N ub uv p, .int .i64 many] w fun e w' => e = .returned (.int .i64 (M.hdLen (M.kds k ts p many) : Nat)) ∧ Below w.heap.size w w' := by
  obtain ⟨w0, hw0⟩ : ∃ w0, (w.alloc (.cells #[.int .i64 k, .int .i64 n, .slice at_ ts.length ct] 24)).alloc (.cells #[.int .u64 (M.pt 0 N), .int .u64 (M.pt 1 N), .int .u64 (M.pt 2 N), .int .u64 (M.pt 3 N), ub, uv, .int .i64 p] 31) = w0 := ⟨_, rfl⟩
  have hb0 : Below w.heap.size w w0 := by rw [← hw0]; exact two_boxes _ _ _
  have hz0 : w0.heap.size = w.heap.size + 2 := by rw [← hw0]; simp
  have hB0 : BoxT w0 w.heap.size k n (.slice at_ ts.length ct) := by rw [← hw0]; exact ⟨by simp [go_sem], by simp [go_sem], by simp [go_sem]⟩
  have hA0 : Cells7 w0 (w.heap.size + 1) 0 N ub uv p := by
    rw [← hw0]
    have := Cells7.new (w.alloc (.cells #[.int .i64 k, .int .i64 n, .slice at_ ts.length ct] 24)) N ub uv p 31
    rwa [World.size_alloc] at this
  have HW := Lib.hid hw0
  clear hw0
  go_enter Tryz.func48, Tryz.ntmps48
  go_wp2_with fail
  rw [HW.out]
  go_loopw [7, 8] (fun q i wr => ∃ (j s : Nat), j ≤ many ∧ i = .int .i64 j ∧ q = .int .i64 s ∧ M.hdLen (M.kds k ts p j) = s ∧ s ≤ j * 2251799813685248 ∧ Below w0.heap.size w0 wr)
    (fun _ i _ => many - (intOf i).toNat)
  case atStart => exact ⟨0, 0, by omega, rfl, rfl, rfl, by omega, Below.refl _ _⟩
  case round =>
    obtain ⟨j, s, hj, rfl, rfl, hs, hs2, LW⟩ := hrel
    have hbW : Below w.heap.size w wr := hb0.trans (LW.mono hb0.size)
    by_cases hlt : j < many
    · obtain ⟨k', m', ts', at', ct', hin, hc1, _, hT', HI⟩ := zin_at ((hT.from_ hbW).mono hbW.size) hc (hp j hlt)
      have HI := Lib.hid HI
      have H1 := Lib.hid (M.hd_one hc1)
      have HN := M.kds_succ k ts p j
      rw [hin] at HN
      have HF := M.hd_fix hc1
      have hsum : M.hdLen (M.kds k ts p (j + 1)) = s + M.hdLen [M.kindOf (.mk k' m' ts')] := by rw [HN, M.hdLen_append, hs]
      have HFX := Lib.hid (fun W (h : Below wr.heap.size wr W) => tfixed_any k' m' ts' at' ct' W ((hT'.from_ h).mono h.size))
      have HSZ := Lib.hid (fun W (h : Below wr.heap.size wr W) => tsize_any k' m' ts' at' ct' W ((hT'.from_ h).mono h.size))
      rw [HF] at hsum
      have HS := Lib.hid hsum
      have hsl : (if M.fixedT (.mk k' m' ts') = true then M.sizeT (.mk k' m' ts') else 4) ≤ 2251799813685248 := by rw [← HF]; exact H1.out
      generalize M.fixedT (.mk k' m' ts') = fx at *
      generalize M.sizeT (.mk k' m' ts') = sz at *
      clear hin HN HF hsum hc1 hT' H1
      have hB1 := hB0.from_ LW (by omega)
      have t0 := hB1.c0
      have t1 := hB1.c1
      have t2 := hB1.c2
      have hA1 := hA0.from_ LW (by omega)
      have a0 := hA1.c0
      have a1 := hA1.c1
      have a2 := hA1.c2
      have a3 := hA1.c3
      have a4 := hA1.c4
      have a5 := hA1.c5
      have a6 := hA1.c6
      simp only [Nat.zero_add] at a1 a2 a3 a4 a5 a6
      go_wp2_with fail
      refine (HI.out wr (Below.refl _ _) N ub uv).mono ?_
      rintro e w2 ⟨rfl, hb2⟩
      clear t0 t1 t2 a0 a1 a2 a3 a4 a5 a6
      obtain ⟨w3, hw3⟩ : ∃ w3, w2.alloc (.cells #[.int .i64 k', .int .i64 m', .slice at' ts'.length ct'] 24) = w3 := ⟨_, rfl⟩
      have hz3 : w3.heap.size = w2.heap.size + 1 := by rw [← hw3]; simp
      have hb3 : Below w2.heap.size w2 w3 := by rw [← hw3]; exact (Below.refl _ _).alloc (Nat.le_refl _) _
      have hB3 : BoxT w3 w2.heap.size k' m' (.slice at' ts'.length ct') := by rw [← hw3]; exact BoxT.new _ _ _ _ _
      have hbr3 : Below wr.heap.size wr w3 := Below.trans hb2 (hb3.mono hb2.size)
      have HW3 := Lib.hid hw3
      clear hw3
      go_wp2_with fail
      rw [HW3.out]
      refine (HFX.out _ hbr3).mono ?_
      rintro e w4 ⟨rfl, hb4⟩
      have hbr4 : Below wr.heap.size wr w4 := hbr3.trans (Below.mono hb4 hbr3.size)
      cases fx with
      | false =>
        go_wp2_with fail
        refine ⟨⟨j + 1, s + 4, by omega, by simp, by simp, ?_, ?_, LW.trans (hbr4.mono LW.size)⟩, by simp [intOf]; omega⟩
        · exact HS.out
        · omega
      | true =>
        have hB4 := hB3.from_ hb4 (by omega)
        have t0 := hB4.c0
        have t1 := hB4.c1
        have t2 := hB4.c2
        simp only [if_pos] at hsl
        go_wp2_with fail
        refine (HSZ.out _ hbr4).mono ?_
        rintro e w5 ⟨rfl, hb5⟩
        clear t0 t1 t2
        go_wp2_with fail
        refine ⟨⟨j + 1, s + sz, by omega, by simp, by simp, ?_, ?_, LW.trans ((hbr4.trans (Below.mono hb5 hbr4.size)).mono LW.size)⟩, by simp [intOf]; omega⟩
        · exact HS.out
        · omega
    · obtain rfl : j = many := by omega
      have hs' := Lib.hid hs
      go_wp2_with fail
      go_ret
      refine ⟨?_, hbW⟩
      rw [hs'.out]
      rfl
end Go.Proofs.YtemnjoiajmcpjaaGreatDoor
