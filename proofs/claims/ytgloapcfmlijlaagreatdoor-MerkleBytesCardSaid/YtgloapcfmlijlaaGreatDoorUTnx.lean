/- How wide a type is; a type and a value that are looked at. -/
import Derived.Test.YtgloapcfmlijlaaGreatDoorEX
namespace Go.Proofs.YtgloapcfmlijlaaGreatDoor
open Go Go.RowKit Go.Shelf Go.Lib
attribute [local go_sem] Oper.semAt_some

/-- How wide a type is: a number, for types of such depth. -/
def WideC (z : Nat) : Prop := ∀ (k n : Int) (ts : List M.Ty) (at_ : Option Addr) (ct : Nat) (w : World), SizeOf.sizeOf ts ≤ z → ts.length ≤ 1000 → M.cntTs ts ≤ 999 → LayT w w.heap.size ts (.slice at_ ts.length ct) →
  Calls Tryz.prog 43 #[tv k n (.slice at_ ts.length ct)] w fun e w' => (∃ x : Int, e = .returned (.int .i64 x)) ∧ Below w.heap.size w w'
/-- What a round keeps. -/
def LW (m : Nat) (w0 : World) (x i : Value) (wr : World) : Prop := ∃ (j : Nat) (y : Int), j ≤ m ∧ x = .int .i64 y ∧ i = .int .i64 (j : Nat) ∧ Below w0.heap.size w0 wr
set_option maxRecDepth 100000 in
set_option maxHeartbeats 4000000 in
theorem wide_step (z : Nat) (ih : Hid (WideC z)) : WideC (z + 1) := by
  intro k n ts at_ ct w hs hl hc hT
  obtain ⟨w0, hw0⟩ : ∃ w0, w.alloc (.cells #[.int .i64 k, .int .i64 n, .slice at_ ts.length ct] 24) = w0 := ⟨_, rfl⟩
  have hb0 : Below w.heap.size w w0 := by rw [← hw0]; exact (Below.refl _ _).alloc (Nat.le_refl _) _
  have hz0 : w0.heap.size = w.heap.size + 1 := by rw [← hw0]; simp
  have hB0 : BoxT w0 w.heap.size k n (.slice at_ ts.length ct) := by rw [← hw0]; exact BoxT.new _ _ _ _ _
  have hlt0 : w.heap.size < w0.heap.size := by omega
  have HW := Lib.hid hw0
  clear hw0
  by_cases h3 : k = 3
  · subst h3
    go_enter Tryz.func43, Tryz.ntmps43
    go_wp2_with fail
    rw [HW.out]
    have s0 := hB0.c0
    have s1 := hB0.c1
    go_wp2_with fail
    clear s0 s1
    go_loopw [3, 4] (fun x i wr => LW ts.length w0 x i wr) (fun _ i _ => ts.length - (RowKit.intOf i).toNat)
    case atStart => exact ⟨0, _, Nat.zero_le _, rfl, rfl, Below.refl _ _⟩
    case round =>
      obtain ⟨j, y, hj, rfl, rfl, hbr⟩ := hrel
      have hBr := hB0.from_ hbr hlt0
      have t0 := hBr.c0
      have t1 := hBr.c1
      have t2 := hBr.c2
      have hjl : j < 1001 := by omega
      by_cases hlt : j < ts.length
      · have hjli : (j : Int) < ts.length := by omega
        by_cases h6 : y ≤ 600
        · obtain ⟨c, x, k', n', us', ua, uc, rfl, hcn, hxt, e0, e1, e2, hLt⟩ := hT.at_ hlt
          have hbwr : Below w.heap.size w wr := hb0.trans (Below.mono hbr hb0.size)
          have hmem := List.mem_of_getElem? hxt
          have hsx := List.sizeOf_lt_of_mem hmem
          rw [M.Ty.mk.sizeOf_spec] at hsx
          have hcx := M.cntT_part hmem
          rw [M.cntT] at hcx
          have hlx := M.length_cntT us'
          have HC := Lib.hid (ih.out k' n' us' ua uc wr (by omega) (by omega) (by omega) ((hLt.from_ hbwr).mono hbwr.size))
          have g0 := (hbwr.cell (p := ⟨c, x + j * 3, none⟩) hcn).trans e0
          have g1 := (hbwr.cell (p := ⟨c, x + j * 3 + 1, none⟩) hcn).trans e1
          have g2 := (hbwr.cell (p := ⟨c, x + j * 3 + 2, none⟩) hcn).trans e2
          clear hxt hmem hsx hcx hlx e0 e1 e2 hLt hT
          go_wp2_with fail
          refine HC.out.mono ?_
          rintro e w5 ⟨⟨y5, rfl⟩, hb5⟩
          have hb05 : Below w0.heap.size w0 w5 := hbr.trans (Below.mono hb5 hbr.size)
          have HB05 := Lib.hid hb05
          clear t0 t1 t2 g0 g1 g2
          go_wp2_with fail
          first | exact ⟨⟨j + 1, _, by omega, rfl, by simp, HB05.out⟩, by simp [RowKit.intOf]; omega⟩ | (refine ⟨⟨_, _, _, _, _, _, _, _, _, _, _, _, _, _, _, _, _, _, _, _, _, ?_, rfl⟩, ?_⟩; · exact ⟨j + 1, _, by omega, rfl, by simp, HB05.out⟩; · (simp [RowKit.intOf]; omega))
        · go_wp2_with fail
          go_ret
          exact ⟨⟨_, rfl⟩, hb0.trans (Below.mono hbr hb0.size)⟩
      · have hjli : ¬ (j : Int) < ts.length := by omega
        go_wp2_with fail
        go_ret
        exact ⟨⟨_, rfl⟩, hb0.trans (Below.mono hbr hb0.size)⟩
  · by_cases h4 : k = 4
    · subst h4
      go_enter Tryz.func43, Tryz.ntmps43
      go_wp2_with fail
      rw [HW.out]
      have s0 := hB0.c0
      have s1 := hB0.c1
      go_wp2_with fail
      clear s0 s1
      go_loopw [3, 4] (fun x i wr => LW ts.length w0 x i wr) (fun _ i _ => ts.length - (RowKit.intOf i).toNat)
      case atStart => exact ⟨0, _, Nat.zero_le _, rfl, rfl, Below.refl _ _⟩
      case round =>
        obtain ⟨j, y, hj, rfl, rfl, hbr⟩ := hrel
        have hBr := hB0.from_ hbr hlt0
        have t0 := hBr.c0
        have t1 := hBr.c1
        have t2 := hBr.c2
        have hjl : j < 1001 := by omega
        by_cases hlt : j < ts.length
        · have hjli : (j : Int) < ts.length := by omega
          by_cases h6 : y ≤ 600
          · obtain ⟨c, x, k', n', us', ua, uc, rfl, hcn, hxt, e0, e1, e2, hLt⟩ := hT.at_ hlt
            have hbwr : Below w.heap.size w wr := hb0.trans (Below.mono hbr hb0.size)
            have hmem := List.mem_of_getElem? hxt
            have hsx := List.sizeOf_lt_of_mem hmem
            rw [M.Ty.mk.sizeOf_spec] at hsx
            have hcx := M.cntT_part hmem
            rw [M.cntT] at hcx
            have hlx := M.length_cntT us'
            have HC := Lib.hid (ih.out k' n' us' ua uc wr (by omega) (by omega) (by omega) ((hLt.from_ hbwr).mono hbwr.size))
            have g0 := (hbwr.cell (p := ⟨c, x + j * 3, none⟩) hcn).trans e0
            have g1 := (hbwr.cell (p := ⟨c, x + j * 3 + 1, none⟩) hcn).trans e1
            have g2 := (hbwr.cell (p := ⟨c, x + j * 3 + 2, none⟩) hcn).trans e2
            clear hxt hmem hsx hcx hlx e0 e1 e2 hLt hT
            go_wp2_with fail
            refine HC.out.mono ?_
            rintro e w5 ⟨⟨y5, rfl⟩, hb5⟩
            have hb05 : Below w0.heap.size w0 w5 := hbr.trans (Below.mono hb5 hbr.size)
            have HB05 := Lib.hid hb05
            clear t0 t1 t2 g0 g1 g2
            go_wp2_with fail
            first | exact ⟨⟨j + 1, _, by omega, rfl, by simp, HB05.out⟩, by simp [RowKit.intOf]; omega⟩ | (refine ⟨⟨_, _, _, _, _, _, _, _, _, _, _, _, _, _, _, _, _, _, _, _, _, ?_, rfl⟩, ?_⟩; · exact ⟨j + 1, _, by omega, rfl, by simp, HB05.out⟩; · (simp [RowKit.intOf]; omega))
          · go_wp2_with fail
            go_ret
            exact ⟨⟨_, rfl⟩, hb0.trans (Below.mono hbr hb0.size)⟩
        · have hjli : ¬ (j : Int) < ts.length := by omega
          go_wp2_with fail
          go_ret
          exact ⟨⟨_, rfl⟩, hb0.trans (Below.mono hbr hb0.size)⟩
    · have hk3 : (k == 3) = false := by simpa using h3
      have hk4 : (k == 4) = false := by simpa using h4
      go_enter Tryz.func43, Tryz.ntmps43
      go_wp2_with fail
      all_goals
        rw [HW.out]
        go_loopw [3, 4] (fun x i wr => LW ts.length w0 x i wr) (fun _ i _ => ts.length - (RowKit.intOf i).toNat)
        case atStart => exact ⟨0, _, Nat.zero_le _, rfl, rfl, Below.refl _ _⟩
        case round =>
          obtain ⟨j, y, hj, rfl, rfl, hbr⟩ := hrel
          have hBr := hB0.from_ hbr hlt0
          have t0 := hBr.c0
          have t1 := hBr.c1
          have t2 := hBr.c2
          have hjl : j < 1001 := by omega
          by_cases hlt : j < ts.length
          · have hjli : (j : Int) < ts.length := by omega
            by_cases h6 : y ≤ 600
            · obtain ⟨c, x, k', n', us', ua, uc, rfl, hcn, hxt, e0, e1, e2, hLt⟩ := hT.at_ hlt
              have hbwr : Below w.heap.size w wr := hb0.trans (Below.mono hbr hb0.size)
              have hmem := List.mem_of_getElem? hxt
              have hsx := List.sizeOf_lt_of_mem hmem
              rw [M.Ty.mk.sizeOf_spec] at hsx
              have hcx := M.cntT_part hmem
              rw [M.cntT] at hcx
              have hlx := M.length_cntT us'
              have HC := Lib.hid (ih.out k' n' us' ua uc wr (by omega) (by omega) (by omega) ((hLt.from_ hbwr).mono hbwr.size))
              have g0 := (hbwr.cell (p := ⟨c, x + j * 3, none⟩) hcn).trans e0
              have g1 := (hbwr.cell (p := ⟨c, x + j * 3 + 1, none⟩) hcn).trans e1
              have g2 := (hbwr.cell (p := ⟨c, x + j * 3 + 2, none⟩) hcn).trans e2
              clear hxt hmem hsx hcx hlx e0 e1 e2 hLt hT
              go_wp2_with fail
              refine HC.out.mono ?_
              rintro e w5 ⟨⟨y5, rfl⟩, hb5⟩
              have hb05 : Below w0.heap.size w0 w5 := hbr.trans (Below.mono hb5 hbr.size)
              have HB05 := Lib.hid hb05
              clear t0 t1 t2 g0 g1 g2
              go_wp2_with fail
              first | exact ⟨⟨j + 1, _, by omega, rfl, by simp, HB05.out⟩, by simp [RowKit.intOf]; omega⟩ | (refine ⟨⟨_, _, _, _, _, _, _, _, _, _, _, _, _, _, _, _, _, _, _, _, _, ?_, rfl⟩, ?_⟩; · exact ⟨j + 1, _, by omega, rfl, by simp, HB05.out⟩; · (simp [RowKit.intOf]; omega))
            · go_wp2_with fail
              go_ret
              exact ⟨⟨_, rfl⟩, hb0.trans (Below.mono hbr hb0.size)⟩
          · have hjli : ¬ (j : Int) < ts.length := by omega
            go_wp2_with fail
            go_ret
            exact ⟨⟨_, rfl⟩, hb0.trans (Below.mono hbr hb0.size)⟩
theorem wide_all : ∀ z, WideC z
  | 0 => fun k n ts at_ ct w hs => by
    have : 1 ≤ SizeOf.sizeOf ts := by cases ts <;> simp <;> omega
    omega
  | z + 1 => wide_step z (Lib.hid (wide_all z))
theorem wide_any (k n : Int) (ts : List M.Ty) (at_ : Option Addr) (ct : Nat) (w : World) (hc : M.cntT (.mk k n ts) ≤ 1000) (hT : LayT w w.heap.size ts (.slice at_ ts.length ct)) :
    Calls Tryz.prog 43 #[tv k n (.slice at_ ts.length ct)] w fun e w' => (∃ x : Int, e = .returned (.int .i64 x)) ∧ Below w.heap.size w w' := by
  rw [M.cntT] at hc
  have := M.length_cntT ts
  exact wide_all _ k n ts at_ ct w (Nat.le_refl _) (by omega) (by omega) hT
set_option maxRecDepth 100000 in
set_option maxHeartbeats 4000000 in
theorem few9_any (k n : Int) (ts : List M.Ty) (at_ : Option Addr) (ct : Nat) (N : Nat) (bs : List Bool) (us : List M.Va) (p : Int) (ab : Option Addr) (cb : Nat) (au : Option Addr) (cu : Nat) (w : World) (hT : LayT w w.heap.size ts (.slice at_ ts.length ct)) (hV : Vl w w.heap.size N bs us ab cb au cu) :
    Calls Tryz.prog 20 #[tv k n (.slice at_ ts.length ct), vv N (.slice ab bs.length cb) (.slice au us.length cu) p] w fun e w' => FewP e (.mk k n ts) (.mk N bs us p) ∧ Below w.heap.size w w' := by
  obtain ⟨w0, hw0⟩ : ∃ w0, (w.alloc (.cells #[.int .i64 k, .int .i64 n, .slice at_ ts.length ct] 24)).alloc (.cells #[.int .u64 (M.pt 0 N), .int .u64 (M.pt 1 N), .int .u64 (M.pt 2 N), .int .u64 (M.pt 3 N), .slice ab bs.length cb, .slice au us.length cu, .int .i64 p] 33) = w0 := ⟨_, rfl⟩
  have hb0 : Below w.heap.size w w0 := by rw [← hw0]; exact two_boxes _ _ _
  have hz0 : w0.heap.size = w.heap.size + 2 := by rw [← hw0]; simp
  have hB0 : BoxT w0 w.heap.size k n (.slice at_ ts.length ct) := by rw [← hw0]; exact ⟨by simp [go_sem], by simp [go_sem], by simp [go_sem]⟩
  have hA0 : Cells7 w0 (w.heap.size + 1) 0 N (.slice ab bs.length cb) (.slice au us.length cu) p := by
    rw [← hw0]
    have := Cells7.new (w.alloc (.cells #[.int .i64 k, .int .i64 n, .slice at_ ts.length ct] 24)) N (.slice ab bs.length cb) (.slice au us.length cu) p 33
    rwa [World.size_alloc] at this
  have hlt0 : w.heap.size < w0.heap.size := by omega
  have hlt1 : w.heap.size + 1 < w0.heap.size := by omega
  have HW := Lib.hid hw0
  have HZ0 := Lib.hid hz0
  have mixed : Tryz.prog.follows .mixedOrders = true := by kernel_rfl
  clear hw0 hz0
  have HF := Lib.hid (sfew_any k n ts at_ ct N bs us p ab cb au cu w0 ((hT.from_ hb0).mono hb0.size) ((hV.from_ hb0).mono hb0.size))
  have HD := Lib.hid (fun X (h : Below w.heap.size w X) hc => wide_any k n ts at_ ct X hc ((hT.from_ h).mono h.size))
  go_enter Tryz.func20, Tryz.ntmps20
  go_wp2_with fail
  rw [HW.out]
  have b0 := hB0.c0
  have b1 := hB0.c1
  have b2 := hB0.c2
  have a0 := hA0.c0
  have a1 := hA0.c1
  have a2 := hA0.c2
  have a3 := hA0.c3
  have a4 := hA0.c4
  have a5 := hA0.c5
  have a6 := hA0.c6
  simp only [Nat.zero_add] at a1 a2 a3 a4 a5 a6
  go_wp2_with fail
  refine HF.out.mono ?_
  rintro e w1 ⟨⟨q, rfl, hq⟩, hb1⟩
  have hbw1 := hb0.trans (Below.mono hb1 hb0.size)
  have HQ := Lib.hid hq
  have hb01 : Below w0.heap.size w0 w1 := hb1
  have hB1 := hB0.from_ hb01 hlt0
  have s0 := hB1.c0
  have s1 := hB1.c1
  have s2 := hB1.c2
  clear hq b0 b1 b2 a0 a1 a2 a3 a4 a5 a6
  cases q with
  | false =>
    go_wp2_with fail
    go_ret
    exact ⟨⟨false, rfl, fun h => by cases h⟩, hbw1⟩
  | true =>
    have hq1 := HQ.out rfl
    have HX := Lib.hid (HD.out w1 hbw1 (by omega))
    have HQ1 := Lib.hid hq1
    clear hq1 HQ
    go_wp2_with fail
    refine HX.out.mono ?_
    rintro e w2 ⟨⟨x, rfl⟩, hb2⟩
    have hbw2 := hbw1.trans (Below.mono hb2 hbw1.size)
    go_wp2_with fail
    go_ret
    exact ⟨⟨_, rfl, fun _ => HQ1.out⟩, hbw2⟩
end Go.Proofs.YtgloapcfmlijlaaGreatDoor
