/- How wide a type is; a type and a value that are looked at. The reference's Root; the law of roots. The law of roots. A type that comes in, as it lies in memory. A word that comes in is a number's. A value that comes in, as it lies in memory. The tables of keccak as the cards of layer 9 list them. MerkleRoots: the statement: for every input the call returns true and each argument reads as it did. The listed library tables are tied to the text (the card). Its condition: none beyond the card's own words. -/
import Derived.Test.YtaajkbclojmbeaaGreatDoorI20
import Derived.Test.YtaajkbclojmbeaaGreatDoorI09
import Derived.Test.YtaajkbclojmbeaaGreatDoorI19
import Derived.Test.YtaajkbclojmbeaaGreatDoorI03
import Derived.Lib.SmallJoins
import Derived.Deep.Slices
import Derived.SizedLaws
import Derived.Test.YtaajkbclojmbeaaGreatDoorRows
import Derived.ProofKit
import Derived.OpenShut
import Derived.Test.YtaajkbclojmbeaaGreatDoorI15
import Derived.Lib.LaidTab
import Derived.MakeChecks
import Derived.Stop.LaidErr
import Derived.Test.YtaajkbclojmbeaaGreatDoorI11
import Derived.Test.YtaajkbclojmbeaaGreatDoorCards
import Derived.Test.YtaajkbclojmbeaaGreatDoorTie
import Derived.ShutString
import Derived.ChangeOld
import Derived.Below
import Derived.LaidMore
import Derived.Lay
import Derived.SevenTiedAt
import Derived.Stop.Joined
namespace Go.Proofs.YtaajkbclojmbeaaGreatDoor
open Go Go.RowKit Go.Shelf Go.Lib
attribute [local go_sem] Oper.semAt_some

/-- How wide a type is: a number, for types of such depth. -/
def WideC (z : Nat) : Prop := ∀ (k n : Int) (ts : List M.Ty) (at_ : Option Addr) (ct : Nat) (w : World), SizeOf.sizeOf ts ≤ z → ts.length ≤ 1000 → M.cntTs ts ≤ 999 → LayT w w.heap.size ts (.slice at_ ts.length ct) →
  Calls Tryz.prog 22 #[tv k n (.slice at_ ts.length ct)] w fun e w' => (∃ x : Int, e = .returned (.int .i64 x)) ∧ Below w.heap.size w w'
/-- What a round keeps. -/
def LW (m : Nat) (w0 : World) (x i : Value) (wr : World) : Prop := ∃ (j : Nat) (y : Int), j ≤ m ∧ x = .int .i64 y ∧ i = .int .i64 (j : Nat) ∧ Below w0.heap.size w0 wr
set_option maxRecDepth 100000 in
set_option maxHeartbeats 4000000 in
theorem wide_step (z : Nat) (ih : Hid (WideC z)) : WideC (z + 1) := by
  intro k n ts at_ ct w hs hl hc hT
  obtain ⟨w0, hw0⟩ : ∃ w0, w.alloc (.cells #[.int .i64 k, .int .i64 n, .slice at_ ts.length ct] 32) = w0 := ⟨_, rfl⟩
  have hb0 : Below w.heap.size w w0 := by rw [← hw0]; exact (Below.refl _ _).alloc (Nat.le_refl _) _
  have hz0 : w0.heap.size = w.heap.size + 1 := by rw [← hw0]; simp
  have hB0 : BoxT w0 w.heap.size k n (.slice at_ ts.length ct) := by rw [← hw0]; exact BoxT.new _ _ _ _ _
  have hlt0 : w.heap.size < w0.heap.size := by omega
  have HW := Lib.hid hw0
  clear hw0
  by_cases h3 : k = 3
  · subst h3
    go_enter Tryz.func22, Tryz.ntmps22
    go_wp2_with fail
    rw [HW.out]
    have s0 := hB0.c0
    have s1 := hB0.c1
    go_wp2_with fail
    clear s0 s1
    go_loopw [3, 4] (fun x i wr => LW ts.length w0 x i wr) (fun _ i _ => ts.length - (RowKit.intOf i).toNat)
    case atStart => exact ⟨0, _, Nat.zero_le _, rfl, rfl, Below.refl _ _⟩
    case round =>
      obtain ⟨j, y, hj, rfl, rfl, hbr⟩ := hrel
      have hBr := hB0.from_ hbr hlt0
      have t0 := hBr.c0
      have t1 := hBr.c1
      have t2 := hBr.c2
      have hjl : j < 1001 := by omega
      by_cases hlt : j < ts.length
      · have hjli : (j : Int) < ts.length := by omega
        by_cases h6 : y ≤ 600
        · obtain ⟨c, x, k', n', us', ua, uc, rfl, hcn, hxt, e0, e1, e2, hLt⟩ := hT.at_ hlt
          have hbwr : Below w.heap.size w wr := hb0.trans (Below.mono hbr hb0.size)
          have hmem := List.mem_of_getElem? hxt
          have hsx := List.sizeOf_lt_of_mem hmem
          rw [M.Ty.mk.sizeOf_spec] at hsx
          have hcx := M.cntT_part hmem
          rw [M.cntT] at hcx
          have hlx := M.length_cntT us'
          have HC := Lib.hid (ih.out k' n' us' ua uc wr (by omega) (by omega) (by omega) ((hLt.from_ hbwr).mono hbwr.size))
          have g0 := (hbwr.cell (p := ⟨c, x + j * 3, none⟩) hcn).trans e0
          have g1 := (hbwr.cell (p := ⟨c, x + j * 3 + 1, none⟩) hcn).trans e1
          have g2 := (hbwr.cell (p := ⟨c, x + j * 3 + 2, none⟩) hcn).trans e2
          clear hxt hmem hsx hcx hlx e0 e1 e2 hLt hT
          go_wp2_with fail
          refine HC.out.mono ?_
          rintro e w5 ⟨⟨y5, rfl⟩, hb5⟩
          have hb05 : Below w0.heap.size w0 w5 := hbr.trans (Below.mono hb5 hbr.size)
          have HB05 := Lib.hid hb05
          clear t0 t1 t2 g0 g1 g2
          go_wp2_with fail
          first | exact ⟨⟨j + 1, _, by omega, rfl, by simp, HB05.out⟩, by simp [RowKit.intOf]; omega⟩ | (refine ⟨⟨_, _, _, _, _, _, _, _, _, _, _, _, _, _, _, _, _, _, _, _, _, ?_, rfl⟩, ?_⟩; · exact ⟨j + 1, _, by omega, rfl, by simp, HB05.out⟩; · (simp [RowKit.intOf]; omega))
        · go_wp2_with fail
          go_ret
          exact ⟨⟨_, rfl⟩, hb0.trans (Below.mono hbr hb0.size)⟩
      · have hjli : ¬ (j : Int) < ts.length := by omega
        go_wp2_with fail
        go_ret
        exact ⟨⟨_, rfl⟩, hb0.trans (Below.mono hbr hb0.size)⟩
  · by_cases h4 : k = 4
    · subst h4
      go_enter Tryz.func22, Tryz.ntmps22
      go_wp2_with fail
      rw [HW.out]
      have s0 := hB0.c0
      have s1 := hB0.c1
      go_wp2_with fail
      clear s0 s1
      go_loopw [3, 4] (fun x i wr => LW ts.length w0 x i wr) (fun _ i _ => ts.length - (RowKit.intOf i).toNat)
      case atStart => exact ⟨0, _, Nat.zero_le _, rfl, rfl, Below.refl _ _⟩
      case round =>
        obtain ⟨j, y, hj, rfl, rfl, hbr⟩ := hrel
        have hBr := hB0.from_ hbr hlt0
        have t0 := hBr.c0
        have t1 := hBr.c1
        have t2 := hBr.c2
        have hjl : j < 1001 := by omega
        by_cases hlt : j < ts.length
        · have hjli : (j : Int) < ts.length := by omega
          by_cases h6 : y ≤ 600
          · obtain ⟨c, x, k', n', us', ua, uc, rfl, hcn, hxt, e0, e1, e2, hLt⟩ := hT.at_ hlt
            have hbwr : Below w.heap.size w wr := hb0.trans (Below.mono hbr hb0.size)
            have hmem := List.mem_of_getElem? hxt
            have hsx := List.sizeOf_lt_of_mem hmem
            rw [M.Ty.mk.sizeOf_spec] at hsx
            have hcx := M.cntT_part hmem
            rw [M.cntT] at hcx
            have hlx := M.length_cntT us'
            have HC := Lib.hid (ih.out k' n' us' ua uc wr (by omega) (by omega) (by omega) ((hLt.from_ hbwr).mono hbwr.size))
            have g0 := (hbwr.cell (p := ⟨c, x + j * 3, none⟩) hcn).trans e0
            have g1 := (hbwr.cell (p := ⟨c, x + j * 3 + 1, none⟩) hcn).trans e1
            have g2 := (hbwr.cell (p := ⟨c, x + j * 3 + 2, none⟩) hcn).trans e2
            clear hxt hmem hsx hcx hlx e0 e1 e2 hLt hT
            go_wp2_with fail
            refine HC.out.mono ?_
            rintro e w5 ⟨⟨y5, rfl⟩, hb5⟩
            have hb05 : Below w0.heap.size w0 w5 := hbr.trans (Below.mono hb5 hbr.size)
            have HB05 := Lib.hid hb05
            clear t0 t1 t2 g0 g1 g2
            go_wp2_with fail
            first | exact ⟨⟨j + 1, _, by omega, rfl, by simp, HB05.out⟩, by simp [RowKit.intOf]; omega⟩ | (refine ⟨⟨_, _, _, _, _, _, _, _, _, _, _, _, _, _, _, _, _, _, _, _, _, ?_, rfl⟩, ?_⟩; · exact ⟨j + 1, _, by omega, rfl, by simp, HB05.out⟩; · (simp [RowKit.intOf]; omega))
          · go_wp2_with fail
            go_ret
            exact ⟨⟨_, rfl⟩, hb0.trans (Below.mono hbr hb0.size)⟩
        · have hjli : ¬ (j : Int) < ts.length := by omega
          go_wp2_with fail
          go_ret
          exact ⟨⟨_, rfl⟩, hb0.trans (Below.mono hbr hb0.size)⟩
    · have hk3 : (k == 3) = false := by simpa using h3
      have hk4 : (k == 4) = false := by simpa using h4
      go_enter Tryz.func22, Tryz.ntmps22
      go_wp2_with fail
      all_goals
        rw [HW.out]
        go_loopw [3, 4] (fun x i wr => LW ts.length w0 x i wr) (fun _ i _ => ts.length - (RowKit.intOf i).toNat)
        case atStart => exact ⟨0, _, Nat.zero_le _, rfl, rfl, Below.refl _ _⟩
        case round =>
          obtain ⟨j, y, hj, rfl, rfl, hbr⟩ := hrel
          have hBr := hB0.from_ hbr hlt0
          have t0 := hBr.c0
          have t1 := hBr.c1
          have t2 := hBr.c2
          have hjl : j < 1001 := by omega
          by_cases hlt : j < ts.length
          · have hjli : (j : Int) < ts.length := by omega
            by_cases h6 : y ≤ 600
            · obtain ⟨c, x, k', n', us', ua, uc, rfl, hcn, hxt, e0, e1, e2, hLt⟩ := hT.at_ hlt
              have hbwr : Below w.heap.size w wr := hb0.trans (Below.mono hbr hb0.size)
              have hmem := List.mem_of_getElem? hxt
              have hsx := List.sizeOf_lt_of_mem hmem
              rw [M.Ty.mk.sizeOf_spec] at hsx
              have hcx := M.cntT_part hmem
              rw [M.cntT] at hcx
              have hlx := M.length_cntT us'
              have HC := Lib.hid (ih.out k' n' us' ua uc wr (by omega) (by omega) (by omega) ((hLt.from_ hbwr).mono hbwr.size))
              have g0 := (hbwr.cell (p := ⟨c, x + j * 3, none⟩) hcn).trans e0
              have g1 := (hbwr.cell (p := ⟨c, x + j * 3 + 1, none⟩) hcn).trans e1
              have g2 := (hbwr.cell (p := ⟨c, x + j * 3 + 2, none⟩) hcn).trans e2
              clear hxt hmem hsx hcx hlx e0 e1 e2 hLt hT
              go_wp2_with fail
              refine HC.out.mono ?_
              rintro e w5 ⟨⟨y5, rfl⟩, hb5⟩
              have hb05 : Below w0.heap.size w0 w5 := hbr.trans (Below.mono hb5 hbr.size)
              have HB05 := Lib.hid hb05
              clear t0 t1 t2 g0 g1 g2
              go_wp2_with fail
              first | exact ⟨⟨j + 1, _, by omega, rfl, by simp, HB05.out⟩, by simp [RowKit.intOf]; omega⟩ | (refine ⟨⟨_, _, _, _, _, _, _, _, _, _, _, _, _, _, _, _, _, _, _, _, _, ?_, rfl⟩, ?_⟩; · exact ⟨j + 1, _, by omega, rfl, by simp, HB05.out⟩; · (simp [RowKit.intOf]; omega))
            · go_wp2_with fail
              go_ret
              exact ⟨⟨_, rfl⟩, hb0.trans (Below.mono hbr hb0.size)⟩
          · have hjli : ¬ (j : Int) < ts.length := by omega
            go_wp2_with fail
            go_ret
            exact ⟨⟨_, rfl⟩, hb0.trans (Below.mono hbr hb0.size)⟩
theorem wide_all : ∀ z, WideC z
  | 0 => fun k n ts at_ ct w hs => by
    have : 1 ≤ SizeOf.sizeOf ts := by cases ts <;> simp <;> omega
    omega
  | z + 1 => wide_step z (Lib.hid (wide_all z))
theorem wide_any (k n : Int) (ts : List M.Ty) (at_ : Option Addr) (ct : Nat) (w : World) (hc : M.cntT (.mk k n ts) ≤ 1000) (hT : LayT w w.heap.size ts (.slice at_ ts.length ct)) :
    Calls Tryz.prog 22 #[tv k n (.slice at_ ts.length ct)] w fun e w' => (∃ x : Int, e = .returned (.int .i64 x)) ∧ Below w.heap.size w w' := by
  rw [M.cntT] at hc
  have := M.length_cntT ts
  exact wide_all _ k n ts at_ ct w (Nat.le_refl _) (by omega) (by omega) hT
set_option maxRecDepth 100000 in
set_option maxHeartbeats 4000000 in
theorem few9_any (k n : Int) (ts : List M.Ty) (at_ : Option Addr) (ct : Nat) (N : Nat) (bs : List Bool) (us : List M.Va) (p : Int) (ab : Option Addr) (cb : Nat) (au : Option Addr) (cu : Nat) (w : World) (hT : LayT w w.heap.size ts (.slice at_ ts.length ct)) (hV : Vl w w.heap.size N bs us ab cb au cu) :
    Calls Tryz.prog 10 #[tv k n (.slice at_ ts.length ct), vv N (.slice ab bs.length cb) (.slice au us.length cu) p] w fun e w' => FewP e (.mk k n ts) (.mk N bs us p) ∧ Below w.heap.size w w' := by
  obtain ⟨w0, hw0⟩ : ∃ w0, (w.alloc (.cells #[.int .i64 k, .int .i64 n, .slice at_ ts.length ct] 32)).alloc (.cells #[.int .u64 (M.pt 0 N), .int .u64 (M.pt 1 N), .int .u64 (M.pt 2 N), .int .u64 (M.pt 3 N), .slice ab bs.length cb, .slice au us.length cu, .int .i64 p] 38) = w0 := ⟨_, rfl⟩
  have hb0 : Below w.heap.size w w0 := by rw [← hw0]; exact two_boxes _ _ _
  have hz0 : w0.heap.size = w.heap.size + 2 := by rw [← hw0]; simp
  have hB0 : BoxT w0 w.heap.size k n (.slice at_ ts.length ct) := by rw [← hw0]; exact ⟨by simp [go_sem], by simp [go_sem], by simp [go_sem]⟩
  have hA0 : Cells7 w0 (w.heap.size + 1) 0 N (.slice ab bs.length cb) (.slice au us.length cu) p := by
    rw [← hw0]
    have := Cells7.new (w.alloc (.cells #[.int .i64 k, .int .i64 n, .slice at_ ts.length ct] 32)) N (.slice ab bs.length cb) (.slice au us.length cu) p 38
    rwa [World.size_alloc] at this
  have hlt0 : w.heap.size < w0.heap.size := by omega
  have hlt1 : w.heap.size + 1 < w0.heap.size := by omega
  have HW := Lib.hid hw0
  have HZ0 := Lib.hid hz0
  have mixed : Tryz.prog.follows .mixedOrders = true := by kernel_rfl
  clear hw0 hz0
  have HF := Lib.hid (sfew_any k n ts at_ ct N bs us p ab cb au cu w0 ((hT.from_ hb0).mono hb0.size) ((hV.from_ hb0).mono hb0.size))
  have HD := Lib.hid (fun X (h : Below w.heap.size w X) hc => wide_any k n ts at_ ct X hc ((hT.from_ h).mono h.size))
  go_enter Tryz.func10, Tryz.ntmps10
  go_wp2_with fail
  rw [HW.out]
  have b0 := hB0.c0
  have b1 := hB0.c1
  have b2 := hB0.c2
  have a0 := hA0.c0
  have a1 := hA0.c1
  have a2 := hA0.c2
  have a3 := hA0.c3
  have a4 := hA0.c4
  have a5 := hA0.c5
  have a6 := hA0.c6
  simp only [Nat.zero_add] at a1 a2 a3 a4 a5 a6
  go_wp2_with fail
  refine HF.out.mono ?_
  rintro e w1 ⟨⟨q, rfl, hq⟩, hb1⟩
  have hbw1 := hb0.trans (Below.mono hb1 hb0.size)
  have HQ := Lib.hid hq
  have hb01 : Below w0.heap.size w0 w1 := hb1
  have hB1 := hB0.from_ hb01 hlt0
  have s0 := hB1.c0
  have s1 := hB1.c1
  have s2 := hB1.c2
  clear hq b0 b1 b2 a0 a1 a2 a3 a4 a5 a6
  cases q with
  | false =>
    go_wp2_with fail
    go_ret
    exact ⟨⟨false, rfl, fun h => by cases h⟩, hbw1⟩
  | true =>
    have hq1 := HQ.out rfl
    have HX := Lib.hid (HD.out w1 hbw1 (by omega))
    have HQ1 := Lib.hid hq1
    clear hq1 HQ
    go_wp2_with fail
    refine HX.out.mono ?_
    rintro e w2 ⟨⟨x, rfl⟩, hb2⟩
    have hbw2 := hbw1.trans (Below.mono hb2 hbw1.size)
    go_wp2_with fail
    go_ret
    exact ⟨⟨_, rfl, fun _ => HQ1.out⟩, hbw2⟩
end Go.Proofs.YtaajkbclojmbeaaGreatDoor
namespace Go.Proofs.YtaajkbclojmbeaaGreatDoor
open Go Go.RowKit Go.Shelf Go.Lib

theorem rof_step (z : Nat) (ih : Hid (ROfC z)) : ROfC (z + 1) := by
  intro k n ts at_ ct d N bs us p ab cb au cu w hs hT hV hc hf hcnt
  have hk := (M.chkT_ok.1 hc).1
  by_cases h1 : k = 1
  · subst h1; exact rof_1 n ts at_ ct N bs us p ab cb au cu w hT hV d hc hf
  by_cases h2 : k = 2
  · subst h2; exact rof_2 n ts at_ ct N bs us p ab cb au cu w hT hV d hc hf
  by_cases h3 : k = 3
  · subst h3; exact rof_3 z ih n ts at_ ct N bs us p ab cb au cu w hT hV d hs hcnt hc hf
  by_cases h4 : k = 4
  · subst h4; exact rof_4 z ih n ts at_ ct N bs us p ab cb au cu w hT hV d hs hcnt hc hf
  by_cases h5 : k = 5
  · subst h5; exact rof_5 n ts at_ ct N bs us p ab cb au cu w hT hV d hc hf
  by_cases h6 : k = 6
  · subst h6; exact rof_6 n ts at_ ct N bs us p ab cb au cu w hT hV d hc hf
  by_cases h7 : k = 7
  · subst h7; exact rof_7 z ih n ts at_ ct N bs us p ab cb au cu w hT hV d hs hcnt hc hf
  obtain rfl : k = 8 := by omega
  exact rof_8 z ih n ts at_ ct N bs us p ab cb au cu w hT hV d hs hcnt hc hf
theorem rof_all : ∀ z, ROfC z
  | 0 => fun k n ts at_ ct d N bs us p ab cb au cu w hs => by
    have : 1 ≤ SizeOf.sizeOf us := by cases us <;> simp <;> omega
    omega
  | z + 1 => rof_step z (Lib.hid (rof_all z))
set_option maxRecDepth 100000 in
set_option maxHeartbeats 4000000 in
theorem rRoot_any (k n : Int) (ts : List M.Ty) (at_ : Option Addr) (ct : Nat) (N : Nat) (bs : List Bool) (us : List M.Va) (p : Int) (ab : Option Addr) (cb : Nat) (au : Option Addr) (cu : Nat) (w : World) (hT : LayT w w.heap.size ts (.slice at_ ts.length ct)) (hV : Vl w w.heap.size N bs us ab cb au cu) (hcnt : M.cntV (.mk N bs us p) ≤ 800) :
    Calls Tryz.prog 12 #[tv k n (.slice at_ ts.length ct), vv N (.slice ab bs.length cb) (.slice au us.length cu) p] w fun e w' => e = .returned (.tuple #[.string ⟨(M.rootE (.mk k n ts) (.mk N bs us p)).1.toArray⟩, .int .i64 ((M.rootE (.mk k n ts) (.mk N bs us p)).2 : Nat)]) ∧ Below w.heap.size w w' := by
  obtain ⟨w0, hw0⟩ : ∃ w0, (w.alloc (.cells #[.int .i64 k, .int .i64 n, .slice at_ ts.length ct] 32)).alloc (.cells #[.int .u64 (M.pt 0 N), .int .u64 (M.pt 1 N), .int .u64 (M.pt 2 N), .int .u64 (M.pt 3 N), .slice ab bs.length cb, .slice au us.length cu, .int .i64 p] 38) = w0 := ⟨_, rfl⟩
  have hb0 : Below w.heap.size w w0 := by rw [← hw0]; exact two_boxes _ _ _
  have hz0 : w0.heap.size = w.heap.size + 2 := by rw [← hw0]; simp
  have hB0 : BoxT w0 w.heap.size k n (.slice at_ ts.length ct) := by rw [← hw0]; exact ⟨by simp [go_sem], by simp [go_sem], by simp [go_sem]⟩
  have hA0 : Cells7 w0 (w.heap.size + 1) 0 N (.slice ab bs.length cb) (.slice au us.length cu) p := by
    rw [← hw0]
    have := Cells7.new (w.alloc (.cells #[.int .i64 k, .int .i64 n, .slice at_ ts.length ct] 32)) N (.slice ab bs.length cb) (.slice au us.length cu) p 38
    rwa [World.size_alloc] at this
  have hlt0 : w.heap.size < w0.heap.size := by omega
  have hlt1 : w.heap.size + 1 < w0.heap.size := by omega
  have HW := Lib.hid hw0
  have HZ0 := Lib.hid hz0
  have mixed : Tryz.prog.follows .mixedOrders = true := by kernel_rfl
  clear hw0 hz0
  have HF := Lib.hid (tfits_any k n ts at_ ct N bs us p ab cb au cu w0 ((hT.from_ hb0).mono hb0.size) ((hV.from_ hb0).mono hb0.size))
  have hb00 : Below w0.heap.size w0 w0 := Below.refl _ _
  by_cases hf : M.fitsV (.mk k n ts) (.mk N bs us p) = 0
  · have hc : M.chkT 0 (.mk k n ts) = 0 := by
      apply Classical.byContradiction
      intro hc
      rw [M.fitsV, if_neg hc] at hf
      exact hc hf
    have hf2 := hf
    rw [M.fitsV, if_pos hc] at hf2
    have HO := Lib.hid (fun X (h : Below w0.heap.size w0 X) => rof_all _ k n ts at_ ct 0 N bs us p ab cb au cu X (Nat.le_refl _) ((hT.from_ (hb0.trans (h.mono hb0.size))).mono (Nat.le_trans hb0.size h.size)) ((hV.from_ (hb0.trans (h.mono hb0.size))).mono (Nat.le_trans hb0.size h.size)) hc hf2 hcnt)
    rw [show M.rootE (.mk k n ts) (.mk N bs us p) = (M.rootV (.mk k n ts) (.mk N bs us p), 0) by unfold M.rootE; rw [if_neg (by simp [hf])]]
    rw [hf] at HF
    generalize M.rootV (.mk k n ts) (.mk N bs us p) = R at *
    clear hT hV hf hf2 hc hcnt
    go_enter Tryz.func12, Tryz.ntmps12
    go_wp2_with fail
    rw [HW.out]
    refine HF.out.mono ?_
    rintro e w1 ⟨rfl, hb01⟩
    clear HF
    have hbr : Below w0.heap.size w0 w1 := hb01
    have hB1 := hB0.from_ hb01 hlt0
    have t0 := hB1.c0
    have t1 := hB1.c1
    have t2 := hB1.c2
    have hAr := hA0.from_ hbr hlt1
    have a0 := hAr.c0
    have a1 := hAr.c1
    have a2 := hAr.c2
    have a3 := hAr.c3
    have a4 := hAr.c4
    have a5 := hAr.c5
    have a6 := hAr.c6
    simp only [Nat.zero_add] at a1 a2 a3 a4 a5 a6
    go_wp2_with fail
    refine (HO.out _ hb01).mono ?_
    rintro e w2 ⟨rfl, hb2⟩
    clear t0 t1 t2 a0 a1 a2 a3 a4 a5 a6 HO
    have hbw := hb0.trans ((Below.trans hb01 (Below.mono hb2 (Below.size hb01))).mono hb0.size)
    go_wp2_with fail
    go_ret2
    exact ⟨rfl, hbw⟩
  · rw [show M.rootE (.mk k n ts) (.mk N bs us p) = ([], M.fitsV (.mk k n ts) (.mk N bs us p)) by unfold M.rootE; rw [if_pos hf]]
    generalize M.fitsV (.mk k n ts) (.mk N bs us p) = x at *
    have hx : ((x : Nat) : Int) != 0 := by simp; omega
    clear hT hV hf
    go_enter Tryz.func12, Tryz.ntmps12
    go_wp2_with fail
    rw [HW.out]
    refine HF.out.mono ?_
    rintro e w1 ⟨rfl, hb01⟩
    go_wp2_with fail
    go_ret2
    exact ⟨rfl, hb0.trans (Below.mono hb01 hb0.size)⟩
end Go.Proofs.YtaajkbclojmbeaaGreatDoor
namespace Go.Proofs.YtaajkbclojmbeaaGreatDoor
open Go Go.RowKit Go.Shelf Go.Lib
attribute [local go_sem] Oper.semAt_some

set_option maxRecDepth 100000 in
set_option maxHeartbeats 8000000 in
theorem roots9_law (k n : Int) (ts : List M.Ty) (at_ : Option Addr) (ct : Nat) (N : Nat) (bs : List Bool) (us : List M.Va) (p : Int) (ab : Option Addr) (cb : Nat) (au : Option Addr) (cu : Nat) (w : World) (hT : LayT w w.heap.size ts (.slice at_ ts.length ct)) (hV : Vl w w.heap.size N bs us ab cb au cu) (hTab : Tab w) :
    Calls Tryz.prog 4 #[tv k n (.slice at_ ts.length ct), vv N (.slice ab bs.length cb) (.slice au us.length cu) p] w fun e w' => e = .returned (.bool true) ∧ Below w.heap.size w w' := by
  obtain ⟨w0, hw0⟩ : ∃ w0, (w.alloc (.cells #[.int .i64 k, .int .i64 n, .slice at_ ts.length ct] 32)).alloc (.cells #[.int .u64 (M.pt 0 N), .int .u64 (M.pt 1 N), .int .u64 (M.pt 2 N), .int .u64 (M.pt 3 N), .slice ab bs.length cb, .slice au us.length cu, .int .i64 p] 38) = w0 := ⟨_, rfl⟩
  have hb0 : Below w.heap.size w w0 := by rw [← hw0]; exact two_boxes _ _ _
  have hz0 : w0.heap.size = w.heap.size + 2 := by rw [← hw0]; simp
  have hB0 : BoxT w0 w.heap.size k n (.slice at_ ts.length ct) := by rw [← hw0]; exact ⟨by simp [go_sem], by simp [go_sem], by simp [go_sem]⟩
  have hA0 : Cells7 w0 (w.heap.size + 1) 0 N (.slice ab bs.length cb) (.slice au us.length cu) p := by
    rw [← hw0]
    have := Cells7.new (w.alloc (.cells #[.int .i64 k, .int .i64 n, .slice at_ ts.length ct] 32)) N (.slice ab bs.length cb) (.slice au us.length cu) p 38
    rwa [World.size_alloc] at this
  have hlt0 : w.heap.size < w0.heap.size := by omega
  have hlt1 : w.heap.size + 1 < w0.heap.size := by omega
  have HW := Lib.hid hw0
  have HZ0 := Lib.hid hz0
  have mixed : Tryz.prog.follows .mixedOrders = true := by kernel_rfl
  clear hw0 hz0
  have HX := Lib.hid (works9 w0 (hTab.from hb0))
  have hTX : ∀ X, Below w0.heap.size w0 X → LayT X X.heap.size ts (.slice at_ ts.length ct) := fun X h => (hT.from_ (hb0.trans (h.mono hb0.size))).mono (hb0.trans (h.mono hb0.size)).size
  have hVX : ∀ X, Below w0.heap.size w0 X → Vl X X.heap.size N bs us ab cb au cu := fun X h => (hV.from_ (hb0.trans (h.mono hb0.size))).mono (hb0.trans (h.mono hb0.size)).size
  have hTabX : ∀ X, Below w0.heap.size w0 X → Tab X := fun X h => hTab.from (hb0.trans (h.mono hb0.size))
  have HF := Lib.hid (fun X (h : Below w0.heap.size w0 X) => few9_any k n ts at_ ct N bs us p ab cb au cu X (hTX X h) (hVX X h))
  have HRR := Lib.hid (fun X (h : Below w0.heap.size w0 X) h2 => rRoot_any k n ts at_ ct N bs us p ab cb au cu X (hTX X h) (hVX X h) h2)
  have HR := Lib.hid (fun X (h : Below w0.heap.size w0 X) h1 h2 => root_any k n ts at_ ct N bs us p ab cb au cu X (hTX X h) (hVX X h) h1 h2 (hTabX X h))
  clear hT hV hTX hVX hTabX
  go_enter Tryz.func4, Tryz.ntmps4
  go_wp2_with fail
  rw [HW.out]
  refine HX.out.mono ?_
  rintro e w1 ⟨rfl, hb1⟩
  have hB1 := hB0.from_ hb1 hlt0
  have hA1 := hA0.from_ hb1 hlt1
  have t0 := hB1.c0
  have t1 := hB1.c1
  have t2 := hB1.c2
  have a0 := hA1.c0
  have a1 := hA1.c1
  have a2 := hA1.c2
  have a3 := hA1.c3
  have a4 := hA1.c4
  have a5 := hA1.c5
  have a6 := hA1.c6
  simp only [Nat.zero_add] at a1 a2 a3 a4 a5 a6
  go_wp2_with fail
  refine (HF.out _ hb1).mono ?_
  rintro e w2 ⟨⟨q1, rfl, hq1⟩, hb2⟩
  have hw2 : Below w0.heap.size w0 w2 := hb1.trans (Below.mono hb2 hb1.size)
  have HQ := Lib.hid hq1
  clear hq1
  clear t0 t1 t2 a0 a1 a2 a3 a4 a5 a6
  have hB2 := hB0.from_ hw2 hlt0
  have hA2 := hA0.from_ hw2 hlt1
  have t0 := hB2.c0
  have t1 := hB2.c1
  have t2 := hB2.c2
  have a0 := hA2.c0
  have a1 := hA2.c1
  have a2 := hA2.c2
  have a3 := hA2.c3
  have a4 := hA2.c4
  have a5 := hA2.c5
  have a6 := hA2.c6
  simp only [Nat.zero_add] at a1 a2 a3 a4 a5 a6
  cases q1 with
  | false =>
    go_wp2_with fail
    go_ret
    exact ⟨rfl, hb0.trans (Below.mono hw2 hb0.size)⟩
  | true =>
    have hq := HQ.out rfl
    have hc1 : M.cntT (.mk k n ts) ≤ 1000 := by omega
    have hc2 : M.cntV (.mk N bs us p) ≤ 6000 := by omega
    have hc3 : M.cntV (.mk N bs us p) ≤ 800 := by omega
    clear hq HQ
    have HR1 := Lib.hid (HR.out w2 hw2 hc1 hc2)
    have HR2 := Lib.hid (fun X h => HRR.out X h hc3)
    generalize M.rootE (.mk k n ts) (.mk N bs us p) = E at *
    go_wp2_with fail
    refine HR1.out.mono ?_
    rintro e w3 ⟨rfl, hb3⟩
    have hw3 : Below w0.heap.size w0 w3 := hw2.trans (Below.mono hb3 hw2.size)
    clear t0 t1 t2 a0 a1 a2 a3 a4 a5 a6
    have hB3 := hB0.from_ hw3 hlt0
    have hA3 := hA0.from_ hw3 hlt1
    have t0 := hB3.c0
    have t1 := hB3.c1
    have t2 := hB3.c2
    have a0 := hA3.c0
    have a1 := hA3.c1
    have a2 := hA3.c2
    have a3 := hA3.c3
    have a4 := hA3.c4
    have a5 := hA3.c5
    have a6 := hA3.c6
    simp only [Nat.zero_add] at a1 a2 a3 a4 a5 a6
    go_wp2_with fail
    refine (HR2.out _ hw3).mono ?_
    rintro e w4 ⟨rfl, hb4⟩
    have hw4 : Below w0.heap.size w0 w4 := hw3.trans (Below.mono hb4 hw3.size)
    clear t0 t1 t2 a0 a1 a2 a3 a4 a5 a6
    go_wp2_with fail
    go_ret
    exact ⟨rfl, hb0.trans (Below.mono hw4 hb0.size)⟩
end Go.Proofs.YtaajkbclojmbeaaGreatDoor
namespace Go.Proofs.YtaajkbclojmbeaaGreatDoor
open Go Go.RowKit

theorem type_cells : Tryz.prog.cellsOf 32 = 3 := by kernel_rfl
theorem int_cells : Tryz.prog.cellsOf 3 = 1 := by kernel_rfl
theorem types_cells : Tryz.prog.cellsOf 30 = 1 := by kernel_rfl
theorem at_add (b o i : Nat) : (⟨b, o, none⟩ : Addr).add i = ⟨b, o + i, none⟩ := by
  unfold Addr.add
  split
  · rename_i h; rw [h, Nat.add_zero]
  · rfl

section
variable {H : Type} {enc : TypeId × Value → H} {W : World} {sp : Nat → Bool} {hd : Bool}

set_option maxRecDepth 100000 in
/-- What a slice of types leads to. -/
theorem open_types : ∀ (fuel : Nat) (u : Value) (x : DataW H × List MemPlace), DataW.trod enc Tryz.prog W 0 sp hd fuel 30 [u] = some x →
    ∃ ts a cap, u = .slice a ts.length cap ∧ LayT W W.heap.size ts (.slice a ts.length cap) := by
  intro fuel
  induction fuel using Nat.strongRecOn with
  | _ fuel ih =>
    intro u x h
    rcases DataW.trod_slice Tryz.underlying30 h with ⟨hu, _⟩ | ⟨a, len, cap, elems, rest, n, hf, hu, hx, hb, hl, hm, hel, hei, _, _⟩
    · obtain rfl : u = .slice none 0 0 := by simpa using hu
      exact ⟨[], none, 0, rfl, .nil_ (by decide)⟩
    · obtain rfl : u = .slice (some a) len cap := by simpa using hu
      by_cases h0 : len = 0
      · subst h0
        exact ⟨[], some a, cap, rfl, .nil_ hm⟩
      · have each : ∀ i, i < len → ∃ q : (Int × Int) × (List M.Ty × Value), W.cell? (a.add (i * 3)) = some (.int .i64 q.1.1) ∧ W.cell? (a.add (i * 3 + 1)) = some (.int .i64 q.1.2) ∧ W.cell? (a.add (i * 3 + 2)) = some q.2.2 ∧ LayT W W.heap.size q.2.1 q.2.2 := by
          intro i hi
          have he := hei i hi
          rw [List.getElem?_eq_getElem (by omega)] at he
          obtain ⟨cs, h1, h2⟩ := Option.bind_eq_some_iff.1 he
          rw [type_cells] at h1
          obtain ⟨_, hlen, hcell⟩ := World.cells?_some h1
          obtain ⟨ps, m, hfm, hxy, _, hpl, hfi⟩ := DataW.trod_struct Tryz.underlying32 h2
          match cs, hlen, ps, hpl with
          | [v0, v1, v2], _, [y0, y1, y2], _ =>
            have g0 := hfi 0 _ rfl
            have g1 := hfi 1 _ rfl
            have g2 := hfi 2 _ rfl
            simp [int_cells, types_cells] at g0 g1 g2
            obtain ⟨k, e0, _, _⟩ := DataW.trod_int Tryz.underlying3 g0
            obtain ⟨s, e1, _, _⟩ := DataW.trod_int Tryz.underlying3 g1
            obtain ⟨xs, _, _, rfl, hLx⟩ := ih m (by omega) v2 y2 g2
            refine ⟨((k, s), (xs, _)), ?_, ?_, ?_, hLx⟩
            · have := hcell 0 (by omega)
              rw [Go.Deep.add_add, Nat.add_zero] at this
              simp at e0
              simpa [e0] using this
            · have := hcell 1 (by omega)
              simp at e1
              rw [Go.Deep.add_add] at this
              simpa [e1] using this
            · have := hcell 2 (by omega)
              rw [Go.Deep.add_add] at this
              simpa using this
        obtain ⟨q, hq⟩ := Go.Deep.choose_lt each
        obtain ⟨b, o, spot⟩ := a
        have hspot : spot = none := by
          have := (hq 0 (by omega)).1
          simpa [Addr.add] using World.cell?_spot this
        subst hspot
        have hbl : b < W.heap.size := World.block_lt_of_cell? W _ ((hq 0 (by omega)).1)
        have hlen : ((List.range len).map fun i => M.Ty.mk (q i).1.1 (q i).1.2 (q i).2.1).length = len := by simp
        refine ⟨(List.range len).map fun i => .mk (q i).1.1 (q i).1.2 (q i).2.1, some ⟨b, o, none⟩, cap, by rw [hlen], ?_⟩
        have key : ∀ (i : Nat) (k m : Int) (us : List M.Ty), ((List.range len).map fun i => M.Ty.mk (q i).1.1 (q i).1.2 (q i).2.1)[i]? = some (M.Ty.mk k m us) → i < len ∧ (q i).1.1 = k ∧ (q i).1.2 = m ∧ (q i).2.1 = us := by
          intro i k m us h
          have hi : i < len := by
            have := (List.getElem?_eq_some_iff.1 h).1
            simpa using this
          simp [hi] at h
          exact ⟨hi, h⟩
        exact LayT.row (fun i => (q i).2.2) hbl (by rw [hlen]; exact hl) hm
          (fun i k m us h => by
            obtain ⟨hi, rfl, rfl, rfl⟩ := key i k m us h
            have := (hq i hi).1
            rwa [at_add] at this)
          (fun i k m us h => by
            obtain ⟨hi, rfl, rfl, rfl⟩ := key i k m us h
            have := (hq i hi).2.1
            rwa [at_add] at this)
          (fun i k m us h => by
            obtain ⟨hi, rfl, rfl, rfl⟩ := key i k m us h
            have := (hq i hi).2.2.1
            rwa [at_add] at this)
          (fun i k m us h => by
            obtain ⟨hi, rfl, rfl, rfl⟩ := key i k m us h
            exact (hq i hi).2.2.2)

set_option maxRecDepth 100000 in
/-- A type that comes in. -/
theorem open_type {r : Reach} {b0 : Nat} {v : Value} {d : DataW H} {p : List MemPlace} (hv : Value.okWide Tryz.prog W r b0 32 v) (h : DataW.Trod enc Tryz.prog W 0 sp hd 32 v d p) :
    ∃ k n ts a cap, v = tv k n (.slice a ts.length cap) ∧ LayT W W.heap.size ts (.slice a ts.length cap) := by
  obtain ⟨v0, v1, v2, y0, y1, y2, m, rfl, rfl, rfl, g0, g1, g2⟩ := Go.Joins.open_agg3 Tryz.underlying32 (by kernel_rfl) type_cells hv h
  obtain ⟨k, e0, _, _⟩ := DataW.trod_int Tryz.underlying3 g0
  obtain ⟨n, e1, _, _⟩ := DataW.trod_int Tryz.underlying3 g1
  obtain ⟨ts, a, cap, rfl, hL⟩ := open_types m v2 y2 g2
  simp at e0 e1
  exact ⟨k, n, ts, a, cap, by rw [e0, e1], hL⟩
end
end Go.Proofs.YtaajkbclojmbeaaGreatDoor
namespace Go.Proofs.YtaajkbclojmbeaaGreatDoor
open Go Go.RowKit Go.ChangeShapes Go.WideShapes Go.ChangeAt

theorem word_cells : Tryz.prog.cellsOf 34 = 4 := by kernel_rfl
theorem part_cells : Tryz.prog.cellsOf 23 = 1 := by kernel_rfl

theorem u64_in {n : Int} (h : (Lit.int .u64 n).wf = true) : 0 ≤ n ∧ n < 18446744073709551616 := by
  have := bounds_u64 h
  omega

set_option maxRecDepth 100000 in
theorem part_at {H : Type} {enc : TypeId × Value → H} {W : World} {base : Nat} {sp : Nat → Bool} {held : Bool} {m : Nat} {v : Value} {o : Option (DataW H × List MemPlace)} (ho : o.isSome = true)
    (h : DataW.trod enc Tryz.prog W base sp held m 23 [v] = o) : ∃ n : Int, v = .int .u64 n ∧ 0 ≤ n ∧ n < 18446744073709551616 := by
  obtain ⟨y, rfl⟩ := Option.isSome_iff_exists.1 ho
  obtain ⟨n, e, _, wf⟩ := DataW.trod_int Tryz.underlying23 h
  simp at e
  exact ⟨n, e, u64_in wf⟩

end Go.Proofs.YtaajkbclojmbeaaGreatDoor
namespace Go.Proofs.YtaajkbclojmbeaaGreatDoor
open Go Go.RowKit

theorem val_cells : Tryz.prog.cellsOf 38 = 7 := by kernel_rfl
theorem bit_cells : Tryz.prog.cellsOf 4 = 1 := by kernel_rfl
theorem bits_cells : Tryz.prog.cellsOf 35 = 1 := by kernel_rfl
theorem vals_cells : Tryz.prog.cellsOf 36 = 1 := by kernel_rfl

section
variable {H : Type} {enc : TypeId × Value → H} {W : World} {sp : Nat → Bool} {hd : Bool}

set_option maxRecDepth 100000 in
/-- What a slice of bits leads to. -/
theorem open_bits (fuel : Nat) (u : Value) (x : DataW H × List MemPlace) (h : DataW.trod enc Tryz.prog W 0 sp hd fuel 35 [u] = some x) : ∃ bs a cap, u = .slice a bs.length cap ∧ LayB W W.heap.size bs (.slice a bs.length cap) := by
  rcases DataW.trod_slice Tryz.underlying35 h with ⟨hu, _⟩ | ⟨a, len, cap, elems, rest, n, hf, hu, hx, hb, hl, hm, hel, hei, _, _⟩
  · obtain rfl : u = .slice none 0 0 := by simpa using hu
    exact ⟨[], none, 0, rfl, .nil_ (by decide)⟩
  · obtain rfl : u = .slice (some a) len cap := by simpa using hu
    by_cases h0 : len = 0
    · subst h0
      exact ⟨[], some a, cap, rfl, .nil_ hm⟩
    · have each : ∀ i, i < len → ∃ q : Bool, W.cell? (a.add i) = some (.bool q) := by
        intro i hi
        have he := hei i hi
        rw [List.getElem?_eq_getElem (by omega)] at he
        obtain ⟨cs, h1, h2⟩ := Option.bind_eq_some_iff.1 he
        rw [bit_cells, Nat.mul_one] at h1
        obtain ⟨s, e1, _⟩ := DataW.trod_bool Tryz.underlying4 h2
        subst e1
        exact ⟨s, Go.ChangeShapes.cell_of_cells?_one h1⟩
      obtain ⟨q, hq⟩ := Go.Deep.choose_lt each
      obtain ⟨b, o, spot⟩ := a
      have hspot : spot = none := by
        have := hq 0 (by omega)
        simpa [Addr.add] using World.cell?_spot this
      subst hspot
      have hbl : b < W.heap.size := World.block_lt_of_cell? W _ (hq 0 (by omega))
      have hlen : ((List.range len).map q).length = len := by simp
      refine ⟨(List.range len).map q, some ⟨b, o, none⟩, cap, by rw [hlen], .row hbl (by rw [hlen]; exact hl) hm fun i s hi => ?_⟩
      have hi' : i < len := by
        have := (List.getElem?_eq_some_iff.1 hi).1
        rwa [hlen] at this
      simp [hi'] at hi
      subst hi
      have := hq i hi'
      rwa [at_add] at this

set_option maxRecDepth 100000 in
/-- The four parts of a word, out of four cells. -/
theorem open_parts {m : Nat} {c0 c1 c2 c3 : Value} {y : DataW H × List MemPlace} (h : DataW.trod enc Tryz.prog W 0 sp hd m 34 [c0, c1, c2, c3] = some y) : ∃ N, M.In N ∧ c0 = .int .u64 (M.pt 0 N) ∧ c1 = .int .u64 (M.pt 1 N) ∧ c2 = .int .u64 (M.pt 2 N) ∧ c3 = .int .u64 (M.pt 3 N) := by
  obtain ⟨xs, m', _, _, _, hn, hel⟩ := DataW.trod_array Tryz.underlying34 h
  have e0 := hel 0 (by omega)
  have e1 := hel 1 (by omega)
  have e2 := hel 2 (by omega)
  have e3 := hel 3 (by omega)
  rw [part_cells] at e0 e1 e2 e3
  obtain ⟨a, rfl, la, ua⟩ := part_at (by simp [hn]) e0
  obtain ⟨b, rfl, lb, ub⟩ := part_at (by simp [hn]) e1
  obtain ⟨c, rfl, lc, uc⟩ := part_at (by simp [hn]) e2
  obtain ⟨e, rfl, le, ue⟩ := part_at (by simp [hn]) e3
  obtain ⟨N, hN, p0, p1, p2, p3⟩ := M.some_number la ua lb ub lc uc le ue
  exact ⟨N, hN, by rw [p0], by rw [p1], by rw [p2], by rw [p3]⟩

set_option maxRecDepth 100000 in
/-- What a slice of values leads to. -/
theorem open_vals : ∀ (fuel : Nat) (u : Value) (x : DataW H × List MemPlace), DataW.trod enc Tryz.prog W 0 sp hd fuel 36 [u] = some x →
    ∃ vs a cap, u = .slice a vs.length cap ∧ LayV W W.heap.size vs (.slice a vs.length cap) := by
  intro fuel
  induction fuel using Nat.strongRecOn with
  | _ fuel ih =>
    intro u x h
    rcases DataW.trod_slice Tryz.underlying36 h with ⟨hu, _⟩ | ⟨a, len, cap, elems, rest, n, hf, hu, hx, hb, hl, hm, hel, hei, _, _⟩
    · obtain rfl : u = .slice none 0 0 := by simpa using hu
      exact ⟨[], none, 0, rfl, .nil_ (by decide)⟩
    · obtain rfl : u = .slice (some a) len cap := by simpa using hu
      by_cases h0 : len = 0
      · subst h0
        exact ⟨[], some a, cap, rfl, .nil_ hm⟩
      · have each : ∀ i, i < len → ∃ q : (Nat × Int) × ((List Bool × Value) × (List M.Va × Value)), M.In q.1.1 ∧ W.cell? (a.add (i * 7)) = some (.int .u64 (M.pt 0 q.1.1)) ∧ W.cell? (a.add (i * 7 + 1)) = some (.int .u64 (M.pt 1 q.1.1)) ∧ W.cell? (a.add (i * 7 + 2)) = some (.int .u64 (M.pt 2 q.1.1)) ∧ W.cell? (a.add (i * 7 + 3)) = some (.int .u64 (M.pt 3 q.1.1)) ∧
            W.cell? (a.add (i * 7 + 4)) = some q.2.1.2 ∧ W.cell? (a.add (i * 7 + 5)) = some q.2.2.2 ∧ W.cell? (a.add (i * 7 + 6)) = some (.int .i64 q.1.2) ∧ LayB W W.heap.size q.2.1.1 q.2.1.2 ∧ LayV W W.heap.size q.2.2.1 q.2.2.2 := by
          intro i hi
          have he := hei i hi
          rw [List.getElem?_eq_getElem (by omega)] at he
          obtain ⟨cs, h1, h2⟩ := Option.bind_eq_some_iff.1 he
          rw [val_cells] at h1
          obtain ⟨_, hlen, hcell⟩ := World.cells?_some h1
          obtain ⟨ps, m, hfm, hxy, _, hpl, hfi⟩ := DataW.trod_struct Tryz.underlying38 h2
          match cs, hlen, ps, hpl with
          | [v0, v1, v2, v3, v4, v5, v6], _, [y0, y1, y2, y3], _ =>
            have g0 := hfi 0 _ rfl
            have g1 := hfi 1 _ rfl
            have g2 := hfi 2 _ rfl
            have g3 := hfi 3 _ rfl
            simp [int_cells, word_cells, bits_cells, vals_cells] at g0 g1 g2 g3
            obtain ⟨N, hN, e0, e1, e2, e3⟩ := open_parts g0
            obtain ⟨bs, _, _, rfl, hLb⟩ := open_bits m v4 y1 g1
            obtain ⟨vs, _, _, rfl, hLv⟩ := ih m (by omega) v5 y2 g2
            obtain ⟨p, e6, _, _⟩ := DataW.trod_int Tryz.underlying3 g3
            simp at e6
            subst e0 e1 e2 e3 e6
            refine ⟨((N, p), ((bs, _), (vs, _))), hN, ?_, ?_, ?_, ?_, ?_, ?_, ?_, hLb, hLv⟩
            · have := hcell 0 (by omega)
              rw [Go.Deep.add_add, Nat.add_zero] at this
              simpa using this
            · have := hcell 1 (by omega)
              rw [Go.Deep.add_add] at this
              simpa using this
            · have := hcell 2 (by omega)
              rw [Go.Deep.add_add] at this
              simpa using this
            · have := hcell 3 (by omega)
              rw [Go.Deep.add_add] at this
              simpa using this
            · have := hcell 4 (by omega)
              rw [Go.Deep.add_add] at this
              simpa using this
            · have := hcell 5 (by omega)
              rw [Go.Deep.add_add] at this
              simpa using this
            · have := hcell 6 (by omega)
              rw [Go.Deep.add_add] at this
              simpa using this
        obtain ⟨q, hq⟩ := Go.Deep.choose_lt each
        obtain ⟨b, o, spot⟩ := a
        have hspot : spot = none := by
          have := (hq 0 (by omega)).2.1
          simpa [Addr.add] using World.cell?_spot this
        subst hspot
        have hbl : b < W.heap.size := World.block_lt_of_cell? W _ ((hq 0 (by omega)).2.1)
        have hlen : ((List.range len).map fun i => M.Va.mk (q i).1.1 (q i).2.1.1 (q i).2.2.1 (q i).1.2).length = len := by simp
        refine ⟨(List.range len).map fun i => .mk (q i).1.1 (q i).2.1.1 (q i).2.2.1 (q i).1.2, some ⟨b, o, none⟩, cap, by rw [hlen], ?_⟩
        have key : ∀ (i N : Nat) (bs : List Bool) (us : List M.Va) (p : Int), ((List.range len).map fun i => M.Va.mk (q i).1.1 (q i).2.1.1 (q i).2.2.1 (q i).1.2)[i]? = some (M.Va.mk N bs us p) → i < len ∧ (q i).1.1 = N ∧ (q i).2.1.1 = bs ∧ (q i).2.2.1 = us ∧ (q i).1.2 = p := by
          intro i N bs us p h
          have hi : i < len := by
            have := (List.getElem?_eq_some_iff.1 h).1
            simpa using this
          simp [hi] at h
          exact ⟨hi, h⟩
        refine LayV.row (fun i => (q i).2.1.2) (fun i => (q i).2.2.2) hbl (by rw [hlen]; exact hl) hm ?_ ?_ ?_ ?_
        · intro i N bs us p h
          obtain ⟨hi, rfl, rfl, rfl, rfl⟩ := key i N bs us p h
          exact (hq i hi).1
        · intro i N bs us p h
          obtain ⟨hi, rfl, rfl, rfl, rfl⟩ := key i N bs us p h
          obtain ⟨_, k0, k1, k2, k3, k4, k5, k6, _, _⟩ := hq i hi
          rw [at_add] at k0 k1 k2 k3 k4 k5 k6
          exact ⟨k0, k1, k2, k3, k4, k5, k6⟩
        · intro i N bs us p h
          obtain ⟨hi, rfl, rfl, rfl, rfl⟩ := key i N bs us p h
          exact (hq i hi).2.2.2.2.2.2.2.2.1
        · intro i N bs us p h
          obtain ⟨hi, rfl, rfl, rfl, rfl⟩ := key i N bs us p h
          exact (hq i hi).2.2.2.2.2.2.2.2.2

set_option maxRecDepth 100000 in
/-- A value that comes in. -/
theorem open_val {r : Reach} {b0 : Nat} {v : Value} {d : DataW H} {p : List MemPlace} (hv : Value.okWide Tryz.prog W r b0 38 v) (h : DataW.Trod enc Tryz.prog W 0 sp hd 38 v d p) :
    ∃ N bs us q ab cb au cu, v = vv N (.slice ab bs.length cb) (.slice au us.length cu) q ∧ Vl W W.heap.size N bs us ab cb au cu := by
  obtain ⟨cs, rfl, hsz⟩ := Go.WideShapes.okWide_struct Tryz.underlying38 hv
  rw [val_cells] at hsz
  obtain ⟨c0, c1, c2, c3, c4, c5, c6, rfl⟩ : ∃ c0 c1 c2 c3 c4 c5 c6, cs = #[c0, c1, c2, c3, c4, c5, c6] := by
    obtain ⟨l⟩ := cs
    match l, hsz with
    | [c0, c1, c2, c3, c4, c5, c6], _ => exact ⟨c0, c1, c2, c3, c4, c5, c6, rfl⟩
  obtain ⟨fuel, hf⟩ := h
  obtain ⟨ps, m, _, _, _, hpl, hfi⟩ := DataW.trod_struct Tryz.underlying38 hf
  match ps, hpl with
  | [y0, y1, y2, y3], _ =>
    have g0 := hfi 0 _ rfl
    have g1 := hfi 1 _ rfl
    have g2 := hfi 2 _ rfl
    have g3 := hfi 3 _ rfl
    simp [int_cells, word_cells, bits_cells, vals_cells, Value.cells] at g0 g1 g2 g3
    obtain ⟨N, hN, e0, e1, e2, e3⟩ := open_parts g0
    obtain ⟨bs, ab, cb, rfl, hLb⟩ := open_bits m c4 y1 g1
    obtain ⟨us, au, cu, rfl, hLv⟩ := open_vals m c5 y2 g2
    obtain ⟨q, e6, _, _⟩ := DataW.trod_int Tryz.underlying3 g3
    simp at e6
    subst e0 e1 e2 e3 e6
    exact ⟨N, bs, us, q, ab, cb, au, cu, rfl, hN, hLb, hLv⟩
end
end Go.Proofs.YtaajkbclojmbeaaGreatDoor
namespace Go.Proofs.YtaajkbclojmbeaaGreatDoor
open Go Go.RowKit Go.ChangeShapes Go.WideShapes Go.ChangeAt

theorem g_turns : Tryz.prog.globalNamed "rescript/keccak.turns" = some 1 := by kernel_rfl
theorem g_numbers : Tryz.prog.globalNamed "rescript/keccak.numbers" = some 0 := by kernel_rfl
theorem t_turns : (Tryz.prog.globals[1]?).map (·.type) = some 118 := by kernel_rfl
theorem t_numbers : (Tryz.prog.globals[0]?).map (·.type) = some 78 := by kernel_rfl
theorem tab_of_laid9 {W : World} (h : laidMetH Tryz.prog [("unicode/utf8.acceptRanges", Rows.laid_unicode_utf8_acceptRanges), ("rescript/keccak.turns", Rows.laid_rescript_keccak_turns), ("rescript/keccak.numbers", Rows.laid_rescript_keccak_numbers), ("unicode/utf8.first", Rows.laid_unicode_utf8_first)] W) : Tab W := by
  rw [MakeChecks.laidMetH_plain _ _ _ (by kernel_rfl)] at h
  have h1 := Lib.tabIs_of_head (k := .i64) (zs := M.offs.map fun n : Nat => (n : Int)) (n := 25) (e := 3) g_turns t_turns (by kernel_rfl) (by kernel_rfl) (by kernel_rfl) (by kernel_rfl) h.tail
  have h2 := Lib.tabIs_of_head (k := .u64) (zs := M.rcs.map fun n : Nat => (n : Int)) (n := 24) (e := 23) g_numbers t_numbers (by kernel_rfl) (by kernel_rfl) (by kernel_rfl) (by kernel_rfl) h.tail.tail
  refine ⟨fun i hi => ?_, fun i hi => ?_⟩
  · have hl : i < M.rcs.length := hi
    rw [h2.cell g_numbers i (by rw [List.length_map]; exact hl)]
    unfold M.gl
    simp [List.getD_eq_getElem?_getD, List.getElem?_eq_getElem hl]
  · have hl : i < M.offs.length := hi
    rw [h1.cell g_turns i (by rw [List.length_map]; exact hl)]
    unfold M.gl
    simp [List.getD_eq_getElem?_getD, List.getElem?_eq_getElem hl]
end Go.Proofs.YtaajkbclojmbeaaGreatDoor
namespace Go.Proofs.YtaajkbclojmbeaaGreatDoor
open Go.ChangeShapes Go.WideShapes Go.ChangeAt Go.RowKit
open Go.ChangeMaps (open_string shut_string)

namespace MerkleRoots
theorem own : ownKnob Tryz.prog.godebug = none := by kernel_rfl
theorem laidOut : laidOutB Tryz.prog = true := by kernel_rfl

set_option maxRecDepth 100000 in
theorem lifted (os : Os) (started : os.Started) (H : Type) (enc : TypeId × Value → H) :
    ReturnsInHanded {} Tryz.checked os 4 .any (fun w args => (Rows.merkleRootsSpec.pre enc Tryz.prog Tryz.f4 Rows.merkleRootsRow.domain false w args ∧ laidMetH Tryz.prog Rows.merkleRootsRow.laid w) ∧ sizedMet enc Tryz.prog Tryz.f4 (OpenSpec.ofChange Rows.merkleRootsSpec) false w args)
      (Rows.merkleRootsSpec.post enc Tryz.prog Tryz.f4 false true false false) := by
  refine returnsInHanded_of_change_and (C := Tryz.checked) (X := fun w _ => laidMetH Tryz.prog Rows.merkleRootsRow.laid w) (fun _ _ _ hh h => h.of_heap hh) own started (by kernel_rfl) Tryz.func4
    (ChangeSpec.witness_shaped (enc := enc) (C := Tryz.checked) (os := os) (X := fun w _ => laidMetH Tryz.prog Rows.merkleRootsRow.laid w) false (World.laidAll Tryz.prog os Rows.merkleRootsRow.laid) #[.agg #[.int .i64 0, .int .i64 0, .slice none 0 0], .agg #[.int .u64 0, .int .u64 0, .int .u64 0, .int .u64 0, .slice none 0 0, .slice none 0 0, .int .i64 0]] 8 (World.laidAll_os _ _ _)
      (World.shaped_of_ZipB (by kernel_rfl) (by kernel_rfl)) (by kernel_rfl) (by kernel_rfl) (by kernel_rfl)
      (by rw [MakeChecks.laidMetH_plain _ _ _ (by kernel_rfl)]; exact laidMet_laidAll _ (by kernel_rfl) (by kernel_rfl))) ?_
  intro W base args ds gs before hval0 hW _ _ hLaid _
  have hval : ∀ (j : Nat) t v, Tryz.f4.params[j]? = some t → args[j]? = some v → Value.okWide Tryz.prog W .any base t v := hval0
  have hW' := hW
  obtain ⟨p, q, hA0, hV, rfl, hfz, hnd⟩ := hW
  have hA : DataW.TrodAll enc Tryz.prog W 0 (fun _ => true) true Tryz.f4.params.toList args.toList ds p := hA0
  rw [Tryz.params4] at hA hval
  obtain ⟨v0, vs0, d0, ds0, p0, q0, hargs, rfl, rfl, h0, r0⟩ := trodAll_cons hA
  obtain ⟨v1, vs1, d1, ds1, p1, q1, rfl, rfl, rfl, h1, r1⟩ := trodAll_cons r0
  obtain ⟨rfl, rfl, rfl⟩ := trodAll_nil r1
  obtain rfl : args = #[v0, v1] := by cases args; simp_all
  obtain ⟨rfl, rfl⟩ := trodVars_none hV
  have k0 := h0
  have lt0 : ∀ x ∈ p0, x.block < W.heap.size := by obtain ⟨m, hm⟩ := k0; exact DataW.trod_lt m _ _ _ hm
  have k1 := h1
  have lt1 : ∀ x ∈ p1, x.block < W.heap.size := by obtain ⟨m, hm⟩ := k1; exact DataW.trod_lt m _ _ _ hm
  obtain ⟨k0_, n0, ts0, at0, ct0, rfl, hT0⟩ := open_type (hval 0 32 v0 rfl rfl) h0
  obtain ⟨N1, bs1, us1, q1_, ab1, cb1, au1, cu1, rfl, hV1⟩ := open_val (hval 1 38 v1 rfl rfl) h1
  clear hA0 hval0
  refine (roots9_law k0_ n0 ts0 at0 ct0 N1 bs1 us1 q1_ ab1 cb1 au1 cu1 W hT0 hV1 (tab_of_laid9 hLaid)).mono fun e W' ⟨he, bel⟩ => ?_
  subst he
  exact ⟨_, rfl, _, _, _, [], _, [], hW', trodAll_mk1 (shut_bool Tryz.underlying4 _), (trodAll_cons_mk (Below.trod laidOut (by kernel_rfl) (of_decide_eq_true (by kernel_rfl)) k0 bel lt0) (trodAll_cons_mk (Below.trod laidOut (by kernel_rfl) (of_decide_eq_true (by kernel_rfl)) k1 bel lt1) trodAll_mk0)), rfl, bel.frame _, fun h => by cases h⟩

theorem over : Rows.merkleRootsRow.holds Tryz.pinned (OpenSpec.ofChange Rows.merkleRootsSpec) :=
  OpenClaim.holds_of_wide 4 Tryz.f4 rfl rfl rfl rfl rfl rfl rfl ⟨rfl, rfl, rfl, rfl, rfl⟩ rfl rfl rfl rfl rfl (by kernel_rfl) Tryz.func4 (by kernel_rfl)
    (of_decide_eq_true (by kernel_rfl)) (by unfold Func.isWrapper; first | (rw [if_pos (by decide +kernel)]; kernel_rfl) | (rw [if_neg (by decide +kernel)]; exact ⟨rfl, rfl⟩))
    (fun os started H enc _ => lifted os started H enc)
end MerkleRoots

theorem merkleRoots_card : Rows.MerkleRootsCardSaid :=
  Claim7.holds_tied_plain_at .later [] [.data, .data, .data, .pinned] true Rows.merkleRootsCard.stood.harness true
    MerkleRoots.over (fun _ h => by cases h) (by kernel_rfl) (fun _ h => by cases h) merkleRoots_row_tie rfl ⟨rfl, rfl⟩ (by kernel_rfl) rfl
    (fun f fn hf hfn => by
      obtain rfl : f = 4 := Option.some.inj ((show Tryz.prog.funcNamed "rescript/rescriptlaw09.MerkleRoots" = some 4 by kernel_rfl).symm.trans hf) |>.symm
      obtain rfl : fn = Tryz.f4 := (Option.some.inj (Tryz.func4.symm.trans hfn)).symm
      exact ⟨by kernel_rfl, fun j t ht => by
        rw [Tryz.params4] at ht
        have hm : t ∈ [32, 38] := by simpa using Array.mem_of_getElem? ht
        have hall : ([32, 38].all fun u => !Tryz.prog.wantsStandIn u) = true := by kernel_rfl
        exact (show Tryz.prog.wantsStandIn t = false by simpa using List.all_eq_true.1 hall t hm)⟩)
    (by kernel_rfl)
#print axioms merkleRoots_card
end Go.Proofs.YtaajkbclojmbeaaGreatDoor
