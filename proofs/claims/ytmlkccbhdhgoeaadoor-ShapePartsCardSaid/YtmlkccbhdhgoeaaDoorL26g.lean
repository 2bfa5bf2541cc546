/- ShapeParts. -/
import Derived.Test.YtmlkccbhdhgoeaaDoorT14g
import Derived.Test.YtmlkccbhdhgoeaaDoorL25g
import Derived.Test.YtmlkccbhdhgoeaaDoorL27g
import Derived.Test.YtmlkccbhdhgoeaaDoorT21g
namespace Go.Proofs.YtmlkccbhdhgoeaaDoor
open Go Go.RowKit

instance : Inhabited M.Va := ⟨.mk 0 [] [] 0⟩
/-- Does each of the first items fit? -/
def M.rowP (k : Int) (ins : List M.Ty) (us : List M.Va) (j : Nat) : Bool := (List.range j).all fun i => decide (M.fitsV (ins[M.partK k ins.length i]?.getD default) (us[i]?.getD default) = 0)
theorem beq_dec (r : Nat) : ((r : Int) == 0) = decide (r = 0) := by
  rw [Bool.eq_iff_iff]
  simp
theorem M.rowP_next {k : Int} {ins : List M.Ty} {us : List M.Va} {j : Nat} {x : M.Ty} {v : M.Va} (hx : ins[M.partK k ins.length j]? = some x) (hv : us[j]? = some v) : M.rowP k ins us (j + 1) = (M.rowP k ins us j && decide (M.fitsV x v = 0)) := by
  unfold M.rowP
  rw [List.range_succ, List.all_append]
  simp [hx, hv]
theorem M.rowP_all {k : Int} {ins : List M.Ty} {us : List M.Va} : M.rowP k ins us us.length = true ↔ ∀ i v, us[i]? = some v → M.fitsV (ins[M.partK k ins.length i]?.getD default) v = 0 := by
  unfold M.rowP
  rw [List.all_eq_true]
  constructor
  · intro h i v hv
    have hi := (List.getElem?_eq_some_iff.1 hv).1
    have := h i (List.mem_range.2 hi)
    rw [hv] at this
    simpa using this
  · intro h i hi
    have hi' := List.mem_range.1 hi
    have := h i _ (List.getElem?_eq_getElem hi')
    rw [List.getElem?_eq_getElem hi']
    simpa using this
theorem M.partK_lt {k n : Int} {ins : List M.Ty} {d j : Nat} (hk : k = 3 ∨ k = 4 ∨ k = 7) (hc : M.chkT d (.mk k n ins) = 0) : M.partK k ins.length j < ins.length := by
  obtain ⟨_, h2, _, _⟩ := M.chkT_ok.1 hc
  have hpos : 0 < ins.length := by
    rcases Nat.eq_zero_or_pos ins.length with h0 | h0
    · rw [h0] at h2
      rcases hk with rfl | rfl | rfl <;> simp [M.formT] at h2
    · exact h0
  unfold M.partK
  split <;> omega

set_option maxRecDepth 100000 in
set_option maxHeartbeats 32000000 in
theorem sparts_law (HS : Hid Shapes) (k n : Int) (ts : List M.Ty) (at_ : Option Addr) (ct : Nat) (N : Nat) (bs : List Bool) (us : List M.Va) (p : Int) (ab : Option Addr) (cb : Nat) (a : Option Addr) (cap : Nat) (w : World) (hT : LayT w w.heap.size ts (.slice at_ ts.length ct)) (hV : Vl w w.heap.size N bs us ab cb a cap) :
    Calls Tryd.prog 5 #[tv k n (.slice at_ ts.length ct), vv N (.slice ab bs.length cb) (.slice a us.length cap) p] w fun e w' => e = .returned (.bool true) ∧ Below w.heap.size w w' := by
  have HW := Lib.hid (fun W => sworks HS W)
  have G : Hid (∀ W, Below w.heap.size w W → LayT W W.heap.size ts (.slice at_ ts.length ct) ∧ Vl W W.heap.size N bs us ab cb a cap) := Lib.hid fun W h => ⟨(hT.from_ h).mono h.size, (hV.from_ h).mono h.size⟩
  have HFew := Lib.hid (fun W (h : Below w.heap.size w W) => sfew_any k n ts at_ ct N bs us p ab cb a cap W (G.out W h).1 (G.out W h).2)
  have S1 := Lib.hid (fun W (h : Below w.heap.size w W) (h1 : M.cntT (.mk k n ts) ≤ 60) => HS.out.check k n ts at_ ct W (G.out W h).1 (by omega))
  have S2 := Lib.hid (fun W (h : Below w.heap.size w W) (h1 : M.cntT (.mk k n ts) ≤ 60) (h2 : M.cntV (.mk N bs us p) ≤ 150) => HS.out.fits k n ts at_ ct N bs us p ab cb a cap W (G.out W h).1 (G.out W h).2 (by omega) (by omega))
  have hb0 := two_boxes w
  have he := fun W => eq_nought hV.hN W
  clear hT hV
  go_enter Tryd.func5, Tryd.ntmps5
  go_wp2_with fail
  refine (HW.out _).mono ?_
  rintro e w1 ⟨rfl, hb1⟩
  have B1 := (hb0 _ _).trans (hb1.mono (by simp; omega))
  have C1 := hb1
  have e1 := (bcell C1).1
  clear hb1
  go_wp2_with fail
  refine (HFew.out _ B1).mono ?_
  rintro e w2 ⟨hq, hb2⟩
  obtain ⟨q, rfl, hfew⟩ := hq.out
  have B2 := B1.trans (hb2.mono B1.size)
  have C2 := C1.trans (hb2.mono C1.size)
  have e2 := (bcell C2).1
  have HQ := Lib.hid hfew
  clear hq hfew e1 hb2
  cases q with
  | false =>
    clear he
    go_wp2_with fail
    go_ret
    exact ⟨rfl, B2⟩
  | true =>
  obtain ⟨h1, h2⟩ := HQ.out rfl
  have T1 := Lib.hid (fun W h => S1.out W h h1)
  have T2 := Lib.hid (fun W h => S2.out W h h1 h2)
  have H1 := Lib.hid h1
  have H2 := Lib.hid h2
  clear HQ h1 h2 S1 S2
  by_cases hk : k = 3 ∨ k = 4 ∨ k = 7
  case neg =>
    have b3 : (k == 3) = false := by simp; omega
    have b4 : (k == 4) = false := by simp; omega
    have b7 : (k == 7) = false := by simp; omega
    have d3 : (k != 3) = true := by simp; omega
    have d4 : (k != 4) = true := by simp; omega
    have d7 : (k != 7) = true := by simp; omega
    clear he hk
    go_wp2_with fail
    go_ret
    exact ⟨rfl, B2⟩
  case pos =>
  have hboxT : w2.heap[w.heap.size]? = some (.cells #[.int .i64 k, .int .i64 n, .slice at_ ts.length ct] 24 (0, 0)) := (C2.block _ (by simp; omega)).trans ((Below.heap_alloc _ _ _ (by simp)).trans (heap_alloc_new w _))
  have hboxV : w2.heap[w.heap.size + 1]? = some (.cells #[.int .u64 (M.pt 0 N), .int .u64 (M.pt 1 N), .int .u64 (M.pt 2 N), .int .u64 (M.pt 3 N), .slice ab bs.length cb, .slice a us.length cap, .int .i64 p] 31 (0, 0)) := by
    have := heap_alloc_new (w.alloc (.cells #[.int .i64 k, .int .i64 n, .slice at_ ts.length ct] 24)) (.cells #[.int .u64 (M.pt 0 N), .int .u64 (M.pt 1 N), .int .u64 (M.pt 2 N), .int .u64 (M.pt 3 N), .slice ab bs.length cb, .slice a us.length cap, .int .i64 p] 31)
    rw [show (w.alloc (.cells #[.int .i64 k, .int .i64 n, .slice at_ ts.length ct] 24)).heap.size = w.heap.size + 1 by simp] at this
    exact (C2.block _ (by simp)).trans this
  have hz2 : w.heap.size + 2 ≤ w2.heap.size := by simpa using C2.size
  have hbT : BoxT w2 w.heap.size k n (.slice at_ ts.length ct) := ⟨by simp [World.cell?, hboxT], by simp [World.cell?, hboxT], by simp [World.cell?, hboxT]⟩
  have hbV : Cells7 w2 (w.heap.size + 1) 0 N (.slice ab bs.length cb) (.slice a us.length cap) p := ⟨by simp [World.cell?, hboxV], by simp [World.cell?, hboxV], by simp [World.cell?, hboxV], by simp [World.cell?, hboxV], by simp [World.cell?, hboxV], by simp [World.cell?, hboxV], by simp [World.cell?, hboxV]⟩
  clear hboxT hboxV C1 C2 e2
  have c0 := hbT.c0
  have c1 := hbT.c1
  have c2 := hbT.c2
  by_cases hck : M.chkT 0 (.mk k n ts) = 0
  case neg =>
    generalize M.chkT 0 (.mk k n ts) = f at *
    have hf : ((f : Int) == 0) = false := by simp; omega
    clear he
    rcases hk with hk | hk | hk <;> subst hk <;>
    (go_wp2_with fail
     refine (T1.out _ B2).mono ?_
     rintro e w3 ⟨rfl, hb3⟩
     go_wp2_with fail
     go_ret
     exact ⟨rfl, B2.trans (hb3.mono B2.size)⟩)
  case pos =>
  rw [hck] at T1
  have hpart := Lib.hid (fun j => M.partK_lt (j := j) hk hck)
  have hiff := Lib.hid (M.fit_parts (num := N) (bits := bs) (items := us) (pick := p) hk hck)
  have hkk := Lib.hid hk
  have hl16 := M.ins_most hck
  have hlu := (G.out w2 B2).2.long
  generalize M.fitsV (.mk k n ts) (.mk N bs us p) = r at *
  clear hck
  rcases hk with hk | hk | hk
  · subst hk
    go_wp2_with fail
    refine (T1.out _ B2).mono ?_
    rintro e w3 ⟨rfl, hb3⟩
    have B3 := B2.trans (hb3.mono B2.size)
    replace hbT := hbT.from_ hb3 (by omega)
    replace hbV := hbV.from_ hb3 (by omega)
    have hz3 : w.heap.size + 2 ≤ w3.heap.size := by have := hb3.size; omega
    clear hb3 c0 c1 c2
    have c0 := hbT.c0
    have c1 := hbT.c1
    have c2 := hbT.c2
    have v0 := hbV.c0
    have v1 := hbV.c1
    have v2 := hbV.c2
    have v3 := hbV.c3
    have v4 := hbV.c4
    have v5 := hbV.c5
    have v6 := hbV.c6
    simp only [Nat.zero_add] at v1 v2 v3 v4 v5 v6
    have HIFF := hiff
    by_cases hbs0 : bs.length = 0
    case neg =>
      have q1 : ((bs.length : Int) == 0) = false := by rw [beq_eq_false_iff_ne]; omega
      have hr0 : ((r : Int) == 0) = false := by
        rw [beq_eq_false_iff_ne]
        intro h
        exact hbs0 (HIFF.out.1 (by omega)).1.1
      clear he HIFF hiff hbs0
      go_wp2_with fail
      clear v0 v1 v2 v3 v4 v6 q1
      go_loopw [7, 9] (fun x i wr => ∃ j : Nat, j ≤ us.length ∧ i = .int .i64 j ∧ x = .bool false ∧ Below w3.heap.size w3 wr) (fun _ i _ => us.length - (intOf i).toNat)
      case atStart => exact ⟨0, by omega, rfl, rfl, Below.refl _ _⟩
      case round =>
        obtain ⟨j, hj, rfl, rfl, hW⟩ := hrel
        have B4 := B3.trans (hW.mono B3.size)
        have hsz := hW.size
        replace hbT := hbT.from_ hW (by omega)
        replace hbV := hbV.from_ hW (by omega)
        have c0' := hbT.c0
        have c1' := hbT.c1
        have c2' := hbT.c2
        have v5' := hbV.c5
        simp only [Nat.zero_add] at v5'
        by_cases hlt : j < us.length
        · have hj9 : j < 150 := by have g1 := M.length_cntV us; have g2 := H2.out; rw [M.cntV] at g2; omega
          clear v5 c0 c1 c2
          go_wp2_with fail
          refine wp_mono' (prf_wp wr wr _ _ _ _ _ _ _ _ _ _ _ _ _ _ _ _ _ _ _ _ _ _ _ _ _ _ _ _ _ _ _ _ _ _ _ _ _ _ _ _ _ _ _ _ _ _ _ _ _ _ _ _ _ _ _ _ _ _ _ _ _ _ _ _ _ _ _ _ _ _ _ _ _ _ _ _ _ _ _ _ _ _ _ _ _ _ _ _ _ _ _ _ _ _ _ _ _ _ _ _ _ _ _ _ _ _ _ _ _ _ _ _ _ _ _ _ _ _ _ _ _ _ _ (by kernel_rfl) ⟨Below.refl _ _⟩) ?_
          rintro a' w5 ⟨⟨z96, z97, z98, z99, z100, z101, z102, z103, z104, z105, z106, z107, z108, z109, z110, rfl⟩, hS5⟩
          have hb5 := hS5.low
          go_wp2_with fail
          go_roundw
          case rel => exact ⟨j + 1, by omega, by simp, rfl, hW.trans (hb5.mono hsz)⟩
          case measure => simp [intOf]; omega
        · obtain rfl : j = us.length := by omega
          have u0 := hbV.c0
          have u1 := hbV.c1
          have u2 := hbV.c2
          have u3 := hbV.c3
          have u4 := hbV.c4
          have u6 := hbV.c6
          simp only [Nat.zero_add] at u1 u2 u3 u4 u6
          clear v5 c0 c1 c2
          go_wp2_with fail
          refine (T2.out _ B4).mono ?_
          rintro e w6 ⟨rfl, hb6⟩
          go_wp2_with fail
          go_ret
          exact ⟨rfl, B4.trans (hb6.mono B4.size)⟩
    by_cases hp0 : p = 0
    case neg =>
      have q1 : ((bs.length : Int) == 0) = true := by rw [hbs0]; rfl
      have q2 : (p == 0) = false := by simpa using hp0
      have hr0 : ((r : Int) == 0) = false := by
        rw [beq_eq_false_iff_ne]
        intro h
        exact hp0 (HIFF.out.1 (by omega)).1.2.1
      clear he HIFF hiff hp0 hbs0
      go_wp2_with fail
      clear v0 v1 v2 v3 v4 v6 q1
      go_loopw [7, 9] (fun x i wr => ∃ j : Nat, j ≤ us.length ∧ i = .int .i64 j ∧ x = .bool false ∧ Below w3.heap.size w3 wr) (fun _ i _ => us.length - (intOf i).toNat)
      case atStart => exact ⟨0, by omega, rfl, rfl, Below.refl _ _⟩
      case round =>
        obtain ⟨j, hj, rfl, rfl, hW⟩ := hrel
        have B4 := B3.trans (hW.mono B3.size)
        have hsz := hW.size
        replace hbT := hbT.from_ hW (by omega)
        replace hbV := hbV.from_ hW (by omega)
        have c0' := hbT.c0
        have c1' := hbT.c1
        have c2' := hbT.c2
        have v5' := hbV.c5
        simp only [Nat.zero_add] at v5'
        by_cases hlt : j < us.length
        · have hj9 : j < 150 := by have g1 := M.length_cntV us; have g2 := H2.out; rw [M.cntV] at g2; omega
          clear v5 c0 c1 c2
          go_wp2_with fail
          refine wp_mono' (prf_wp wr wr _ _ _ _ _ _ _ _ _ _ _ _ _ _ _ _ _ _ _ _ _ _ _ _ _ _ _ _ _ _ _ _ _ _ _ _ _ _ _ _ _ _ _ _ _ _ _ _ _ _ _ _ _ _ _ _ _ _ _ _ _ _ _ _ _ _ _ _ _ _ _ _ _ _ _ _ _ _ _ _ _ _ _ _ _ _ _ _ _ _ _ _ _ _ _ _ _ _ _ _ _ _ _ _ _ _ _ _ _ _ _ _ _ _ _ _ _ _ _ _ _ _ _ (by kernel_rfl) ⟨Below.refl _ _⟩) ?_
          rintro a' w5 ⟨⟨z96, z97, z98, z99, z100, z101, z102, z103, z104, z105, z106, z107, z108, z109, z110, rfl⟩, hS5⟩
          have hb5 := hS5.low
          go_wp2_with fail
          go_roundw
          case rel => exact ⟨j + 1, by omega, by simp, rfl, hW.trans (hb5.mono hsz)⟩
          case measure => simp [intOf]; omega
        · obtain rfl : j = us.length := by omega
          have u0 := hbV.c0
          have u1 := hbV.c1
          have u2 := hbV.c2
          have u3 := hbV.c3
          have u4 := hbV.c4
          have u6 := hbV.c6
          simp only [Nat.zero_add] at u1 u2 u3 u4 u6
          clear v5 c0 c1 c2
          go_wp2_with fail
          refine (T2.out _ B4).mono ?_
          rintro e w6 ⟨rfl, hb6⟩
          go_wp2_with fail
          go_ret
          exact ⟨rfl, B4.trans (hb6.mono B4.size)⟩
    by_cases hN0 : N = 0
    case neg =>
      have q1 : ((bs.length : Int) == 0) = true := by rw [hbs0]; rfl
      have q2 : (p == 0) = true := by rw [hp0]; rfl
      have q3 : ∀ W, (Op.equalIn 10000 27 (wn N) (wd 0 0 0 0)).run Tryd.prog W = .ok false W := fun W => by rw [he]; simp [hN0]
      have hr0 : ((r : Int) == 0) = false := by
        rw [beq_eq_false_iff_ne]
        intro h
        exact hN0 (HIFF.out.1 (by omega)).1.2.2
      clear he HIFF hiff hp0 hbs0 hN0
      go_wp2_with fail
      clear v0 v1 v2 v3 v4 v6 q1
      go_loopw [7, 9] (fun x i wr => ∃ j : Nat, j ≤ us.length ∧ i = .int .i64 j ∧ x = .bool false ∧ Below w3.heap.size w3 wr) (fun _ i _ => us.length - (intOf i).toNat)
      case atStart => exact ⟨0, by omega, rfl, rfl, Below.refl _ _⟩
      case round =>
        obtain ⟨j, hj, rfl, rfl, hW⟩ := hrel
        have B4 := B3.trans (hW.mono B3.size)
        have hsz := hW.size
        replace hbT := hbT.from_ hW (by omega)
        replace hbV := hbV.from_ hW (by omega)
        have c0' := hbT.c0
        have c1' := hbT.c1
        have c2' := hbT.c2
        have v5' := hbV.c5
        simp only [Nat.zero_add] at v5'
        by_cases hlt : j < us.length
        · have hj9 : j < 150 := by have g1 := M.length_cntV us; have g2 := H2.out; rw [M.cntV] at g2; omega
          clear v5 c0 c1 c2
          go_wp2_with fail
          refine wp_mono' (prf_wp wr wr _ _ _ _ _ _ _ _ _ _ _ _ _ _ _ _ _ _ _ _ _ _ _ _ _ _ _ _ _ _ _ _ _ _ _ _ _ _ _ _ _ _ _ _ _ _ _ _ _ _ _ _ _ _ _ _ _ _ _ _ _ _ _ _ _ _ _ _ _ _ _ _ _ _ _ _ _ _ _ _ _ _ _ _ _ _ _ _ _ _ _ _ _ _ _ _ _ _ _ _ _ _ _ _ _ _ _ _ _ _ _ _ _ _ _ _ _ _ _ _ _ _ _ (by kernel_rfl) ⟨Below.refl _ _⟩) ?_
          rintro a' w5 ⟨⟨z96, z97, z98, z99, z100, z101, z102, z103, z104, z105, z106, z107, z108, z109, z110, rfl⟩, hS5⟩
          have hb5 := hS5.low
          go_wp2_with fail
          go_roundw
          case rel => exact ⟨j + 1, by omega, by simp, rfl, hW.trans (hb5.mono hsz)⟩
          case measure => simp [intOf]; omega
        · obtain rfl : j = us.length := by omega
          have u0 := hbV.c0
          have u1 := hbV.c1
          have u2 := hbV.c2
          have u3 := hbV.c3
          have u4 := hbV.c4
          have u6 := hbV.c6
          simp only [Nat.zero_add] at u1 u2 u3 u4 u6
          clear v5 c0 c1 c2
          go_wp2_with fail
          refine (T2.out _ B4).mono ?_
          rintro e w6 ⟨rfl, hb6⟩
          go_wp2_with fail
          go_ret
          exact ⟨rfl, B4.trans (hb6.mono B4.size)⟩
    have q1 : ((bs.length : Int) == 0) = true := by rw [hbs0]; rfl
    have q2 : (p == 0) = true := by rw [hp0]; rfl
    have q3 : ∀ W, (Op.equalIn 10000 27 (wn N) (wd 0 0 0 0)).run Tryd.prog W = .ok true W := fun W => by rw [he]; simp [hN0]
    have hfin : Hid (((r : Int) == 0) = (M.rowP 3 ts us us.length && ((us.length : Int) == n))) := by
      show _ = _
      have := HIFF.out
      rw [← M.rowP_all] at this
      simp only [hbs0, hp0, hN0, true_and, and_self] at this
      rw [Bool.eq_iff_iff, beq_iff_eq, Bool.and_eq_true]
      constructor
      · intro h
        obtain ⟨g1, g2⟩ := this.1 (by omega)
        refine ⟨g1, ?_⟩
        simpa [M.manyP] using g2
      · rintro ⟨g1, g2⟩
        have := this.2 ⟨g1, by simpa [M.manyP] using g2⟩
        omega
    clear he HIFF hiff hp0 hbs0 hN0
    go_wp2_with fail
    clear v0 v1 v2 v3 v4 v6 q1 q2 q3
    go_loopw [7, 9] (fun x i wr => ∃ j : Nat, j ≤ us.length ∧ i = .int .i64 j ∧ x = .bool (M.rowP 3 ts us j) ∧ Below w3.heap.size w3 wr) (fun _ i _ => us.length - (intOf i).toNat)
    case atStart => exact ⟨0, by omega, rfl, rfl, Below.refl _ _⟩
    case round =>
      obtain ⟨j, hj, rfl, rfl, hW⟩ := hrel
      have B4 := B3.trans (hW.mono B3.size)
      have hsz := hW.size
      replace hbT := hbT.from_ hW (by omega)
      replace hbV := hbV.from_ hW (by omega)
      have c0' := hbT.c0
      have c1' := hbT.c1
      have c2' := hbT.c2
      have v5' := hbV.c5
      simp only [Nat.zero_add] at v5'
      have hbs : w.heap.size < wr.heap.size := by omega
      have hbs2 : w.heap.size + 1 < wr.heap.size := by omega
      by_cases hlt : j < us.length
      · have hj9 : j < 150 := by have g1 := M.length_cntV us; have g2 := H2.out; rw [M.cntV] at g2; omega
        have hpk : 0 < ts.length := hpart.out j
        obtain ⟨bv, ov, N', bs', us', p', ab', cb', av', cv', rfl, hbv0, hxk, hE, hV'⟩ := (G.out wr B4).2.v.at_ hlt
        obtain ⟨bt, ot, k', m', ts', at', ct', rfl, hbt0, hti, e0, e1, e2, hT'⟩ := (G.out wr B4).1.at_ hpk
        have hcT : M.cntT (.mk k' m' ts') ≤ 100 := by
          have g1 := M.cntT_part (List.mem_of_getElem? hti)
          have g2 := H1.out
          rw [M.cntT] at g2
          omega
        have hcV : M.cntV (.mk N' bs' us' p') ≤ 200 := by
          have g1 := M.cntV_part (List.mem_of_getElem? hxk)
          have g2 := H2.out
          rw [M.cntV] at g2
          omega
        have HN := Lib.hid (M.rowP_next (k := 3) (j := j) hti hxk)
        have HD : PD (SB wr) w.heap.size bt ot ts.length ct 0 bv ov us.length cap j k' m' at' ts'.length ct' N' ab' bs'.length cb' av' us'.length cv' p' (M.fitsV (.mk k' m' ts') (.mk N' bs' us' p')) :=
          { hp := hpk, hj := hlt, hp9 := by omega, hj9 := by omega
            c := fun W hC => ⟨(hbT.from_ hC.low hbs).c2, by have := (hbV.from_ hC.low hbs2).c5; simpa using this⟩
            t := fun W hC => ⟨(hC.low.cell (p := ⟨bt, ot + 0 * 3, none⟩) hbt0).trans e0, (hC.low.cell (p := ⟨bt, ot + 0 * 3 + 1, none⟩) hbt0).trans e1, (hC.low.cell (p := ⟨bt, ot + 0 * 3 + 2, none⟩) hbt0).trans e2⟩
            v := fun W hC => hE.from_ hC.low hbv0
            f := fun W hC => (HS.out.fits k' m' ts' at' ct' N' bs' us' p' ab' cb' av' cv' W ((hT'.from_ hC.low).mono hC.low.size) ((hV'.from_ hC.low).mono hC.low.size) hcT hcV).mono fun _ _ h => ⟨h.1, ⟨hC.low.trans (h.2.mono hC.low.size)⟩⟩ }
        generalize M.fitsV (.mk k' m' ts') (.mk N' bs' us' p') = r' at *
        generalize M.rowP 3 ts us j = q at *
        clear v5 c0 c1 c2 hcT hcV hT' hV' hE e0 e1 e2 hti hxk hpk
        cases q with
        | false =>
          clear HD
          go_wp2_with fail
          refine wp_mono' (prf_wp wr wr _ _ _ _ _ _ _ _ _ _ _ _ _ _ _ _ _ _ _ _ _ _ _ _ _ _ _ _ _ _ _ _ _ _ _ _ _ _ _ _ _ _ _ _ _ _ _ _ _ _ _ _ _ _ _ _ _ _ _ _ _ _ _ _ _ _ _ _ _ _ _ _ _ _ _ _ _ _ _ _ _ _ _ _ _ _ _ _ _ _ _ _ _ _ _ _ _ _ _ _ _ _ _ _ _ _ _ _ _ _ _ _ _ _ _ _ _ _ _ _ _ _ _ (by kernel_rfl) ⟨Below.refl _ _⟩) ?_
          rintro a' w5 ⟨⟨z96, z97, z98, z99, z100, z101, z102, z103, z104, z105, z106, z107, z108, z109, z110, rfl⟩, hS5⟩
          have hb5 := hS5.low
          go_wp2_with fail
          go_roundw
          case rel => exact ⟨j + 1, by omega, by simp, by rw [HN.out]; rfl, hW.trans (hb5.mono hsz)⟩
          case measure => simp [intOf]; omega
        | true =>
          go_wp2_with fail
          refine wp_mono' (prt_wp wr HD _ _ _ _ _ _ _ _ _ _ _ _ _ _ _ _ _ _ _ _ _ _ _ _ _ _ _ _ _ _ _ _ _ _ _ _ _ _ _ _ _ _ _ _ _ _ _ _ _ _ _ _ _ _ _ _ _ _ _ _ _ _ _ _ _ _ _ _ _ _ _ _ _ _ _ _ _ _ _ _ _ _ _ _ _ _ _ _ _ _ _ _ _ _ _ _ _ _ _ _ _ _ _ _ _ _ _ _ _ _ _ _ _ _ _ _ _ _ _ (by kernel_rfl) ⟨Below.refl _ _⟩) ?_
          rintro a' w5 ⟨⟨z96, z97, z98, z99, z100, z101, z102, z103, z104, z105, z106, z107, z108, z109, z110, rfl⟩, hS5⟩
          have hb5 := hS5.low
          clear HD
          go_wp2_with fail
          go_roundw
          case rel => exact ⟨j + 1, by omega, by simp, by rw [HN.out, Bool.true_and, beq_dec], hW.trans (hb5.mono hsz)⟩
          case measure => simp [intOf]; omega
      · obtain rfl : j = us.length := by omega
        have u0 := hbV.c0
        have u1 := hbV.c1
        have u2 := hbV.c2
        have u3 := hbV.c3
        have u4 := hbV.c4
        have u6 := hbV.c6
        simp only [Nat.zero_add] at u1 u2 u3 u4 u6
        generalize M.rowP 3 ts us us.length = q at *
        clear v5 c0 c1 c2
        cases q with
        | false =>
          have hf2 : ((r : Int) == 0) = false := by rw [hfin.out]; rfl
          go_wp2_with fail
          refine (T2.out _ B4).mono ?_
          rintro e w6 ⟨rfl, hb6⟩
          go_wp2_with fail
          go_ret
          exact ⟨rfl, B4.trans (hb6.mono B4.size)⟩
        | true =>
          have HF := Lib.hid hfin.out
          go_wp2_with fail
          refine (T2.out _ B4).mono ?_
          rintro e w6 ⟨rfl, hb6⟩
          go_wp2_with fail
          go_ret
          have hh := HF.out
          simp only [Bool.true_and] at hh
          rw [hh]
          exact ⟨by simp, B4.trans (hb6.mono B4.size)⟩
  · subst hk
    go_wp2_with fail
    refine (T1.out _ B2).mono ?_
    rintro e w3 ⟨rfl, hb3⟩
    have B3 := B2.trans (hb3.mono B2.size)
    replace hbT := hbT.from_ hb3 (by omega)
    replace hbV := hbV.from_ hb3 (by omega)
    have hz3 : w.heap.size + 2 ≤ w3.heap.size := by have := hb3.size; omega
    clear hb3 c0 c1 c2
    have c0 := hbT.c0
    have c1 := hbT.c1
    have c2 := hbT.c2
    have v0 := hbV.c0
    have v1 := hbV.c1
    have v2 := hbV.c2
    have v3 := hbV.c3
    have v4 := hbV.c4
    have v5 := hbV.c5
    have v6 := hbV.c6
    simp only [Nat.zero_add] at v1 v2 v3 v4 v5 v6
    have HIFF := hiff
    by_cases hbs0 : bs.length = 0
    case neg =>
      have q1 : ((bs.length : Int) == 0) = false := by rw [beq_eq_false_iff_ne]; omega
      have hr0 : ((r : Int) == 0) = false := by
        rw [beq_eq_false_iff_ne]
        intro h
        exact hbs0 (HIFF.out.1 (by omega)).1.1
      clear he HIFF hiff hbs0
      go_wp2_with fail
      clear v0 v1 v2 v3 v4 v6 q1
      go_loopw [7, 9] (fun x i wr => ∃ j : Nat, j ≤ us.length ∧ i = .int .i64 j ∧ x = .bool false ∧ Below w3.heap.size w3 wr) (fun _ i _ => us.length - (intOf i).toNat)
      case atStart => exact ⟨0, by omega, rfl, rfl, Below.refl _ _⟩
      case round =>
        obtain ⟨j, hj, rfl, rfl, hW⟩ := hrel
        have B4 := B3.trans (hW.mono B3.size)
        have hsz := hW.size
        replace hbT := hbT.from_ hW (by omega)
        replace hbV := hbV.from_ hW (by omega)
        have c0' := hbT.c0
        have c1' := hbT.c1
        have c2' := hbT.c2
        have v5' := hbV.c5
        simp only [Nat.zero_add] at v5'
        by_cases hlt : j < us.length
        · have hj9 : j < 150 := by have g1 := M.length_cntV us; have g2 := H2.out; rw [M.cntV] at g2; omega
          clear v5 c0 c1 c2
          go_wp2_with fail
          refine wp_mono' (prf_wp wr wr _ _ _ _ _ _ _ _ _ _ _ _ _ _ _ _ _ _ _ _ _ _ _ _ _ _ _ _ _ _ _ _ _ _ _ _ _ _ _ _ _ _ _ _ _ _ _ _ _ _ _ _ _ _ _ _ _ _ _ _ _ _ _ _ _ _ _ _ _ _ _ _ _ _ _ _ _ _ _ _ _ _ _ _ _ _ _ _ _ _ _ _ _ _ _ _ _ _ _ _ _ _ _ _ _ _ _ _ _ _ _ _ _ _ _ _ _ _ _ _ _ _ _ (by kernel_rfl) ⟨Below.refl _ _⟩) ?_
          rintro a' w5 ⟨⟨z96, z97, z98, z99, z100, z101, z102, z103, z104, z105, z106, z107, z108, z109, z110, rfl⟩, hS5⟩
          have hb5 := hS5.low
          go_wp2_with fail
          go_roundw
          case rel => exact ⟨j + 1, by omega, by simp, rfl, hW.trans (hb5.mono hsz)⟩
          case measure => simp [intOf]; omega
        · obtain rfl : j = us.length := by omega
          have u0 := hbV.c0
          have u1 := hbV.c1
          have u2 := hbV.c2
          have u3 := hbV.c3
          have u4 := hbV.c4
          have u6 := hbV.c6
          simp only [Nat.zero_add] at u1 u2 u3 u4 u6
          clear v5 c0 c1 c2
          go_wp2_with fail
          refine (T2.out _ B4).mono ?_
          rintro e w6 ⟨rfl, hb6⟩
          go_wp2_with fail
          go_ret
          exact ⟨rfl, B4.trans (hb6.mono B4.size)⟩
    by_cases hp0 : p = 0
    case neg =>
      have q1 : ((bs.length : Int) == 0) = true := by rw [hbs0]; rfl
      have q2 : (p == 0) = false := by simpa using hp0
      have hr0 : ((r : Int) == 0) = false := by
        rw [beq_eq_false_iff_ne]
        intro h
        exact hp0 (HIFF.out.1 (by omega)).1.2.1
      clear he HIFF hiff hp0 hbs0
      go_wp2_with fail
      clear v0 v1 v2 v3 v4 v6 q1
      go_loopw [7, 9] (fun x i wr => ∃ j : Nat, j ≤ us.length ∧ i = .int .i64 j ∧ x = .bool false ∧ Below w3.heap.size w3 wr) (fun _ i _ => us.length - (intOf i).toNat)
      case atStart => exact ⟨0, by omega, rfl, rfl, Below.refl _ _⟩
      case round =>
        obtain ⟨j, hj, rfl, rfl, hW⟩ := hrel
        have B4 := B3.trans (hW.mono B3.size)
        have hsz := hW.size
        replace hbT := hbT.from_ hW (by omega)
        replace hbV := hbV.from_ hW (by omega)
        have c0' := hbT.c0
        have c1' := hbT.c1
        have c2' := hbT.c2
        have v5' := hbV.c5
        simp only [Nat.zero_add] at v5'
        by_cases hlt : j < us.length
        · have hj9 : j < 150 := by have g1 := M.length_cntV us; have g2 := H2.out; rw [M.cntV] at g2; omega
          clear v5 c0 c1 c2
          go_wp2_with fail
          refine wp_mono' (prf_wp wr wr _ _ _ _ _ _ _ _ _ _ _ _ _ _ _ _ _ _ _ _ _ _ _ _ _ _ _ _ _ _ _ _ _ _ _ _ _ _ _ _ _ _ _ _ _ _ _ _ _ _ _ _ _ _ _ _ _ _ _ _ _ _ _ _ _ _ _ _ _ _ _ _ _ _ _ _ _ _ _ _ _ _ _ _ _ _ _ _ _ _ _ _ _ _ _ _ _ _ _ _ _ _ _ _ _ _ _ _ _ _ _ _ _ _ _ _ _ _ _ _ _ _ _ (by kernel_rfl) ⟨Below.refl _ _⟩) ?_
          rintro a' w5 ⟨⟨z96, z97, z98, z99, z100, z101, z102, z103, z104, z105, z106, z107, z108, z109, z110, rfl⟩, hS5⟩
          have hb5 := hS5.low
          go_wp2_with fail
          go_roundw
          case rel => exact ⟨j + 1, by omega, by simp, rfl, hW.trans (hb5.mono hsz)⟩
          case measure => simp [intOf]; omega
        · obtain rfl : j = us.length := by omega
          have u0 := hbV.c0
          have u1 := hbV.c1
          have u2 := hbV.c2
          have u3 := hbV.c3
          have u4 := hbV.c4
          have u6 := hbV.c6
          simp only [Nat.zero_add] at u1 u2 u3 u4 u6
          clear v5 c0 c1 c2
          go_wp2_with fail
          refine (T2.out _ B4).mono ?_
          rintro e w6 ⟨rfl, hb6⟩
          go_wp2_with fail
          go_ret
          exact ⟨rfl, B4.trans (hb6.mono B4.size)⟩
    by_cases hN0 : N = 0
    case neg =>
      have q1 : ((bs.length : Int) == 0) = true := by rw [hbs0]; rfl
      have q2 : (p == 0) = true := by rw [hp0]; rfl
      have q3 : ∀ W, (Op.equalIn 10000 27 (wn N) (wd 0 0 0 0)).run Tryd.prog W = .ok false W := fun W => by rw [he]; simp [hN0]
      have hr0 : ((r : Int) == 0) = false := by
        rw [beq_eq_false_iff_ne]
        intro h
        exact hN0 (HIFF.out.1 (by omega)).1.2.2
      clear he HIFF hiff hp0 hbs0 hN0
      go_wp2_with fail
      clear v0 v1 v2 v3 v4 v6 q1
      go_loopw [7, 9] (fun x i wr => ∃ j : Nat, j ≤ us.length ∧ i = .int .i64 j ∧ x = .bool false ∧ Below w3.heap.size w3 wr) (fun _ i _ => us.length - (intOf i).toNat)
      case atStart => exact ⟨0, by omega, rfl, rfl, Below.refl _ _⟩
      case round =>
        obtain ⟨j, hj, rfl, rfl, hW⟩ := hrel
        have B4 := B3.trans (hW.mono B3.size)
        have hsz := hW.size
        replace hbT := hbT.from_ hW (by omega)
        replace hbV := hbV.from_ hW (by omega)
        have c0' := hbT.c0
        have c1' := hbT.c1
        have c2' := hbT.c2
        have v5' := hbV.c5
        simp only [Nat.zero_add] at v5'
        by_cases hlt : j < us.length
        · have hj9 : j < 150 := by have g1 := M.length_cntV us; have g2 := H2.out; rw [M.cntV] at g2; omega
          clear v5 c0 c1 c2
          go_wp2_with fail
          refine wp_mono' (prf_wp wr wr _ _ _ _ _ _ _ _ _ _ _ _ _ _ _ _ _ _ _ _ _ _ _ _ _ _ _ _ _ _ _ _ _ _ _ _ _ _ _ _ _ _ _ _ _ _ _ _ _ _ _ _ _ _ _ _ _ _ _ _ _ _ _ _ _ _ _ _ _ _ _ _ _ _ _ _ _ _ _ _ _ _ _ _ _ _ _ _ _ _ _ _ _ _ _ _ _ _ _ _ _ _ _ _ _ _ _ _ _ _ _ _ _ _ _ _ _ _ _ _ _ _ _ (by kernel_rfl) ⟨Below.refl _ _⟩) ?_
          rintro a' w5 ⟨⟨z96, z97, z98, z99, z100, z101, z102, z103, z104, z105, z106, z107, z108, z109, z110, rfl⟩, hS5⟩
          have hb5 := hS5.low
          go_wp2_with fail
          go_roundw
          case rel => exact ⟨j + 1, by omega, by simp, rfl, hW.trans (hb5.mono hsz)⟩
          case measure => simp [intOf]; omega
        · obtain rfl : j = us.length := by omega
          have u0 := hbV.c0
          have u1 := hbV.c1
          have u2 := hbV.c2
          have u3 := hbV.c3
          have u4 := hbV.c4
          have u6 := hbV.c6
          simp only [Nat.zero_add] at u1 u2 u3 u4 u6
          clear v5 c0 c1 c2
          go_wp2_with fail
          refine (T2.out _ B4).mono ?_
          rintro e w6 ⟨rfl, hb6⟩
          go_wp2_with fail
          go_ret
          exact ⟨rfl, B4.trans (hb6.mono B4.size)⟩
    have q1 : ((bs.length : Int) == 0) = true := by rw [hbs0]; rfl
    have q2 : (p == 0) = true := by rw [hp0]; rfl
    have q3 : ∀ W, (Op.equalIn 10000 27 (wn N) (wd 0 0 0 0)).run Tryd.prog W = .ok true W := fun W => by rw [he]; simp [hN0]
    have hfin : Hid (((r : Int) == 0) = (M.rowP 4 ts us us.length && (decide ((us.length : Int) ≤ n)))) := by
      show _ = _
      have := HIFF.out
      rw [← M.rowP_all] at this
      simp only [hbs0, hp0, hN0, true_and, and_self] at this
      rw [Bool.eq_iff_iff, beq_iff_eq, Bool.and_eq_true]
      constructor
      · intro h
        obtain ⟨g1, g2⟩ := this.1 (by omega)
        refine ⟨g1, ?_⟩
        simpa [M.manyP] using g2
      · rintro ⟨g1, g2⟩
        have := this.2 ⟨g1, by simpa [M.manyP] using g2⟩
        omega
    clear he HIFF hiff hp0 hbs0 hN0
    go_wp2_with fail
    clear v0 v1 v2 v3 v4 v6 q1 q2 q3
    go_loopw [7, 9] (fun x i wr => ∃ j : Nat, j ≤ us.length ∧ i = .int .i64 j ∧ x = .bool (M.rowP 4 ts us j) ∧ Below w3.heap.size w3 wr) (fun _ i _ => us.length - (intOf i).toNat)
    case atStart => exact ⟨0, by omega, rfl, rfl, Below.refl _ _⟩
    case round =>
      obtain ⟨j, hj, rfl, rfl, hW⟩ := hrel
      have B4 := B3.trans (hW.mono B3.size)
      have hsz := hW.size
      replace hbT := hbT.from_ hW (by omega)
      replace hbV := hbV.from_ hW (by omega)
      have c0' := hbT.c0
      have c1' := hbT.c1
      have c2' := hbT.c2
      have v5' := hbV.c5
      simp only [Nat.zero_add] at v5'
      have hbs : w.heap.size < wr.heap.size := by omega
      have hbs2 : w.heap.size + 1 < wr.heap.size := by omega
      by_cases hlt : j < us.length
      · have hj9 : j < 150 := by have g1 := M.length_cntV us; have g2 := H2.out; rw [M.cntV] at g2; omega
        have hpk : 0 < ts.length := hpart.out j
        obtain ⟨bv, ov, N', bs', us', p', ab', cb', av', cv', rfl, hbv0, hxk, hE, hV'⟩ := (G.out wr B4).2.v.at_ hlt
        obtain ⟨bt, ot, k', m', ts', at', ct', rfl, hbt0, hti, e0, e1, e2, hT'⟩ := (G.out wr B4).1.at_ hpk
        have hcT : M.cntT (.mk k' m' ts') ≤ 100 := by
          have g1 := M.cntT_part (List.mem_of_getElem? hti)
          have g2 := H1.out
          rw [M.cntT] at g2
          omega
        have hcV : M.cntV (.mk N' bs' us' p') ≤ 200 := by
          have g1 := M.cntV_part (List.mem_of_getElem? hxk)
          have g2 := H2.out
          rw [M.cntV] at g2
          omega
        have HN := Lib.hid (M.rowP_next (k := 4) (j := j) hti hxk)
        have HD : PD (SB wr) w.heap.size bt ot ts.length ct 0 bv ov us.length cap j k' m' at' ts'.length ct' N' ab' bs'.length cb' av' us'.length cv' p' (M.fitsV (.mk k' m' ts') (.mk N' bs' us' p')) :=
          { hp := hpk, hj := hlt, hp9 := by omega, hj9 := by omega
            c := fun W hC => ⟨(hbT.from_ hC.low hbs).c2, by have := (hbV.from_ hC.low hbs2).c5; simpa using this⟩
            t := fun W hC => ⟨(hC.low.cell (p := ⟨bt, ot + 0 * 3, none⟩) hbt0).trans e0, (hC.low.cell (p := ⟨bt, ot + 0 * 3 + 1, none⟩) hbt0).trans e1, (hC.low.cell (p := ⟨bt, ot + 0 * 3 + 2, none⟩) hbt0).trans e2⟩
            v := fun W hC => hE.from_ hC.low hbv0
            f := fun W hC => (HS.out.fits k' m' ts' at' ct' N' bs' us' p' ab' cb' av' cv' W ((hT'.from_ hC.low).mono hC.low.size) ((hV'.from_ hC.low).mono hC.low.size) hcT hcV).mono fun _ _ h => ⟨h.1, ⟨hC.low.trans (h.2.mono hC.low.size)⟩⟩ }
        generalize M.fitsV (.mk k' m' ts') (.mk N' bs' us' p') = r' at *
        generalize M.rowP 4 ts us j = q at *
        clear v5 c0 c1 c2 hcT hcV hT' hV' hE e0 e1 e2 hti hxk hpk
        cases q with
        | false =>
          clear HD
          go_wp2_with fail
          refine wp_mono' (prf_wp wr wr _ _ _ _ _ _ _ _ _ _ _ _ _ _ _ _ _ _ _ _ _ _ _ _ _ _ _ _ _ _ _ _ _ _ _ _ _ _ _ _ _ _ _ _ _ _ _ _ _ _ _ _ _ _ _ _ _ _ _ _ _ _ _ _ _ _ _ _ _ _ _ _ _ _ _ _ _ _ _ _ _ _ _ _ _ _ _ _ _ _ _ _ _ _ _ _ _ _ _ _ _ _ _ _ _ _ _ _ _ _ _ _ _ _ _ _ _ _ _ _ _ _ _ (by kernel_rfl) ⟨Below.refl _ _⟩) ?_
          rintro a' w5 ⟨⟨z96, z97, z98, z99, z100, z101, z102, z103, z104, z105, z106, z107, z108, z109, z110, rfl⟩, hS5⟩
          have hb5 := hS5.low
          go_wp2_with fail
          go_roundw
          case rel => exact ⟨j + 1, by omega, by simp, by rw [HN.out]; rfl, hW.trans (hb5.mono hsz)⟩
          case measure => simp [intOf]; omega
        | true =>
          go_wp2_with fail
          refine wp_mono' (prt_wp wr HD _ _ _ _ _ _ _ _ _ _ _ _ _ _ _ _ _ _ _ _ _ _ _ _ _ _ _ _ _ _ _ _ _ _ _ _ _ _ _ _ _ _ _ _ _ _ _ _ _ _ _ _ _ _ _ _ _ _ _ _ _ _ _ _ _ _ _ _ _ _ _ _ _ _ _ _ _ _ _ _ _ _ _ _ _ _ _ _ _ _ _ _ _ _ _ _ _ _ _ _ _ _ _ _ _ _ _ _ _ _ _ _ _ _ _ _ _ _ _ (by kernel_rfl) ⟨Below.refl _ _⟩) ?_
          rintro a' w5 ⟨⟨z96, z97, z98, z99, z100, z101, z102, z103, z104, z105, z106, z107, z108, z109, z110, rfl⟩, hS5⟩
          have hb5 := hS5.low
          clear HD
          go_wp2_with fail
          go_roundw
          case rel => exact ⟨j + 1, by omega, by simp, by rw [HN.out, Bool.true_and, beq_dec], hW.trans (hb5.mono hsz)⟩
          case measure => simp [intOf]; omega
      · obtain rfl : j = us.length := by omega
        have u0 := hbV.c0
        have u1 := hbV.c1
        have u2 := hbV.c2
        have u3 := hbV.c3
        have u4 := hbV.c4
        have u6 := hbV.c6
        simp only [Nat.zero_add] at u1 u2 u3 u4 u6
        generalize M.rowP 4 ts us us.length = q at *
        clear v5 c0 c1 c2
        cases q with
        | false =>
          have hf2 : ((r : Int) == 0) = false := by rw [hfin.out]; rfl
          go_wp2_with fail
          refine (T2.out _ B4).mono ?_
          rintro e w6 ⟨rfl, hb6⟩
          go_wp2_with fail
          go_ret
          exact ⟨rfl, B4.trans (hb6.mono B4.size)⟩
        | true =>
          have HF := Lib.hid hfin.out
          go_wp2_with fail
          refine (T2.out _ B4).mono ?_
          rintro e w6 ⟨rfl, hb6⟩
          go_wp2_with fail
          go_ret
          have hh := HF.out
          simp only [Bool.true_and] at hh
          rw [hh]
          exact ⟨by simp, B4.trans (hb6.mono B4.size)⟩
  · subst hk
    go_wp2_with fail
    refine (T1.out _ B2).mono ?_
    rintro e w3 ⟨rfl, hb3⟩
    have B3 := B2.trans (hb3.mono B2.size)
    replace hbT := hbT.from_ hb3 (by omega)
    replace hbV := hbV.from_ hb3 (by omega)
    have hz3 : w.heap.size + 2 ≤ w3.heap.size := by have := hb3.size; omega
    clear hb3 c0 c1 c2
    have c0 := hbT.c0
    have c1 := hbT.c1
    have c2 := hbT.c2
    have v0 := hbV.c0
    have v1 := hbV.c1
    have v2 := hbV.c2
    have v3 := hbV.c3
    have v4 := hbV.c4
    have v5 := hbV.c5
    have v6 := hbV.c6
    simp only [Nat.zero_add] at v1 v2 v3 v4 v5 v6
    have HIFF := hiff
    obtain ⟨tm, htm⟩ : ∃ tm : Nat, tm = ts.length - 1 := ⟨_, rfl⟩
    have hlm : (ts.length : Int) - 1 = (tm : Nat) := by have := hpart.out 0; omega
    have HTM := Lib.hid htm
    clear htm
    by_cases hbs0 : bs.length = 0
    case neg =>
      have q1 : ((bs.length : Int) == 0) = false := by rw [beq_eq_false_iff_ne]; omega
      have hr0 : ((r : Int) == 0) = false := by
        rw [beq_eq_false_iff_ne]
        intro h
        exact hbs0 (HIFF.out.1 (by omega)).1.1
      clear he HIFF hiff hbs0
      go_wp2_with fail
      clear v0 v1 v2 v3 v4 v6 q1
      go_loopw [7, 9] (fun x i wr => ∃ j : Nat, j ≤ us.length ∧ i = .int .i64 j ∧ x = .bool false ∧ Below w3.heap.size w3 wr) (fun _ i _ => us.length - (intOf i).toNat)
      case atStart => exact ⟨0, by omega, rfl, rfl, Below.refl _ _⟩
      case round =>
        obtain ⟨j, hj, rfl, rfl, hW⟩ := hrel
        have B4 := B3.trans (hW.mono B3.size)
        have hsz := hW.size
        replace hbT := hbT.from_ hW (by omega)
        replace hbV := hbV.from_ hW (by omega)
        have c0' := hbT.c0
        have c1' := hbT.c1
        have c2' := hbT.c2
        have v5' := hbV.c5
        simp only [Nat.zero_add] at v5'
        by_cases hlt : j < us.length
        · have hj9 : j < 150 := by have g1 := M.length_cntV us; have g2 := H2.out; rw [M.cntV] at g2; omega
          by_cases hc : tm < j
          · skip
            clear v5 c0 c1 c2
            go_wp2_with fail
            refine wp_mono' (prf_wp wr wr _ _ _ _ _ _ _ _ _ _ _ _ _ _ _ _ _ _ _ _ _ _ _ _ _ _ _ _ _ _ _ _ _ _ _ _ _ _ _ _ _ _ _ _ _ _ _ _ _ _ _ _ _ _ _ _ _ _ _ _ _ _ _ _ _ _ _ _ _ _ _ _ _ _ _ _ _ _ _ _ _ _ _ _ _ _ _ _ _ _ _ _ _ _ _ _ _ _ _ _ _ _ _ _ _ _ _ _ _ _ _ _ _ _ _ _ _ _ _ _ _ _ _ (by kernel_rfl) ⟨Below.refl _ _⟩) ?_
            rintro a' w5 ⟨⟨z96, z97, z98, z99, z100, z101, z102, z103, z104, z105, z106, z107, z108, z109, z110, rfl⟩, hS5⟩
            have hb5 := hS5.low
            go_wp2_with fail
            go_roundw
            case rel => exact ⟨j + 1, by omega, by simp, rfl, hW.trans (hb5.mono hsz)⟩
            case measure => simp [intOf]; omega
          · skip
            clear v5 c0 c1 c2
            go_wp2_with fail
            refine wp_mono' (prf_wp wr wr _ _ _ _ _ _ _ _ _ _ _ _ _ _ _ _ _ _ _ _ _ _ _ _ _ _ _ _ _ _ _ _ _ _ _ _ _ _ _ _ _ _ _ _ _ _ _ _ _ _ _ _ _ _ _ _ _ _ _ _ _ _ _ _ _ _ _ _ _ _ _ _ _ _ _ _ _ _ _ _ _ _ _ _ _ _ _ _ _ _ _ _ _ _ _ _ _ _ _ _ _ _ _ _ _ _ _ _ _ _ _ _ _ _ _ _ _ _ _ _ _ _ _ (by kernel_rfl) ⟨Below.refl _ _⟩) ?_
            rintro a' w5 ⟨⟨z96, z97, z98, z99, z100, z101, z102, z103, z104, z105, z106, z107, z108, z109, z110, rfl⟩, hS5⟩
            have hb5 := hS5.low
            go_wp2_with fail
            go_roundw
            case rel => exact ⟨j + 1, by omega, by simp, rfl, hW.trans (hb5.mono hsz)⟩
            case measure => simp [intOf]; omega
        · obtain rfl : j = us.length := by omega
          have u0 := hbV.c0
          have u1 := hbV.c1
          have u2 := hbV.c2
          have u3 := hbV.c3
          have u4 := hbV.c4
          have u6 := hbV.c6
          simp only [Nat.zero_add] at u1 u2 u3 u4 u6
          clear v5 c0 c1 c2
          go_wp2_with fail
          refine (T2.out _ B4).mono ?_
          rintro e w6 ⟨rfl, hb6⟩
          go_wp2_with fail
          go_ret
          exact ⟨rfl, B4.trans (hb6.mono B4.size)⟩
    by_cases hp0 : p = 0
    case neg =>
      have q1 : ((bs.length : Int) == 0) = true := by rw [hbs0]; rfl
      have q2 : (p == 0) = false := by simpa using hp0
      have hr0 : ((r : Int) == 0) = false := by
        rw [beq_eq_false_iff_ne]
        intro h
        exact hp0 (HIFF.out.1 (by omega)).1.2.1
      clear he HIFF hiff hp0 hbs0
      go_wp2_with fail
      clear v0 v1 v2 v3 v4 v6 q1
      go_loopw [7, 9] (fun x i wr => ∃ j : Nat, j ≤ us.length ∧ i = .int .i64 j ∧ x = .bool false ∧ Below w3.heap.size w3 wr) (fun _ i _ => us.length - (intOf i).toNat)
      case atStart => exact ⟨0, by omega, rfl, rfl, Below.refl _ _⟩
      case round =>
        obtain ⟨j, hj, rfl, rfl, hW⟩ := hrel
        have B4 := B3.trans (hW.mono B3.size)
        have hsz := hW.size
        replace hbT := hbT.from_ hW (by omega)
        replace hbV := hbV.from_ hW (by omega)
        have c0' := hbT.c0
        have c1' := hbT.c1
        have c2' := hbT.c2
        have v5' := hbV.c5
        simp only [Nat.zero_add] at v5'
        by_cases hlt : j < us.length
        · have hj9 : j < 150 := by have g1 := M.length_cntV us; have g2 := H2.out; rw [M.cntV] at g2; omega
          by_cases hc : tm < j
          · skip
            clear v5 c0 c1 c2
            go_wp2_with fail
            refine wp_mono' (prf_wp wr wr _ _ _ _ _ _ _ _ _ _ _ _ _ _ _ _ _ _ _ _ _ _ _ _ _ _ _ _ _ _ _ _ _ _ _ _ _ _ _ _ _ _ _ _ _ _ _ _ _ _ _ _ _ _ _ _ _ _ _ _ _ _ _ _ _ _ _ _ _ _ _ _ _ _ _ _ _ _ _ _ _ _ _ _ _ _ _ _ _ _ _ _ _ _ _ _ _ _ _ _ _ _ _ _ _ _ _ _ _ _ _ _ _ _ _ _ _ _ _ _ _ _ _ (by kernel_rfl) ⟨Below.refl _ _⟩) ?_
            rintro a' w5 ⟨⟨z96, z97, z98, z99, z100, z101, z102, z103, z104, z105, z106, z107, z108, z109, z110, rfl⟩, hS5⟩
            have hb5 := hS5.low
            go_wp2_with fail
            go_roundw
            case rel => exact ⟨j + 1, by omega, by simp, rfl, hW.trans (hb5.mono hsz)⟩
            case measure => simp [intOf]; omega
          · skip
            clear v5 c0 c1 c2
            go_wp2_with fail
            refine wp_mono' (prf_wp wr wr _ _ _ _ _ _ _ _ _ _ _ _ _ _ _ _ _ _ _ _ _ _ _ _ _ _ _ _ _ _ _ _ _ _ _ _ _ _ _ _ _ _ _ _ _ _ _ _ _ _ _ _ _ _ _ _ _ _ _ _ _ _ _ _ _ _ _ _ _ _ _ _ _ _ _ _ _ _ _ _ _ _ _ _ _ _ _ _ _ _ _ _ _ _ _ _ _ _ _ _ _ _ _ _ _ _ _ _ _ _ _ _ _ _ _ _ _ _ _ _ _ _ _ (by kernel_rfl) ⟨Below.refl _ _⟩) ?_
            rintro a' w5 ⟨⟨z96, z97, z98, z99, z100, z101, z102, z103, z104, z105, z106, z107, z108, z109, z110, rfl⟩, hS5⟩
            have hb5 := hS5.low
            go_wp2_with fail
            go_roundw
            case rel => exact ⟨j + 1, by omega, by simp, rfl, hW.trans (hb5.mono hsz)⟩
            case measure => simp [intOf]; omega
        · obtain rfl : j = us.length := by omega
          have u0 := hbV.c0
          have u1 := hbV.c1
          have u2 := hbV.c2
          have u3 := hbV.c3
          have u4 := hbV.c4
          have u6 := hbV.c6
          simp only [Nat.zero_add] at u1 u2 u3 u4 u6
          clear v5 c0 c1 c2
          go_wp2_with fail
          refine (T2.out _ B4).mono ?_
          rintro e w6 ⟨rfl, hb6⟩
          go_wp2_with fail
          go_ret
          exact ⟨rfl, B4.trans (hb6.mono B4.size)⟩
    by_cases hN0 : N = 0
    case neg =>
      have q1 : ((bs.length : Int) == 0) = true := by rw [hbs0]; rfl
      have q2 : (p == 0) = true := by rw [hp0]; rfl
      have q3 : ∀ W, (Op.equalIn 10000 27 (wn N) (wd 0 0 0 0)).run Tryd.prog W = .ok false W := fun W => by rw [he]; simp [hN0]
      have hr0 : ((r : Int) == 0) = false := by
        rw [beq_eq_false_iff_ne]
        intro h
        exact hN0 (HIFF.out.1 (by omega)).1.2.2
      clear he HIFF hiff hp0 hbs0 hN0
      go_wp2_with fail
      clear v0 v1 v2 v3 v4 v6 q1
      go_loopw [7, 9] (fun x i wr => ∃ j : Nat, j ≤ us.length ∧ i = .int .i64 j ∧ x = .bool false ∧ Below w3.heap.size w3 wr) (fun _ i _ => us.length - (intOf i).toNat)
      case atStart => exact ⟨0, by omega, rfl, rfl, Below.refl _ _⟩
      case round =>
        obtain ⟨j, hj, rfl, rfl, hW⟩ := hrel
        have B4 := B3.trans (hW.mono B3.size)
        have hsz := hW.size
        replace hbT := hbT.from_ hW (by omega)
        replace hbV := hbV.from_ hW (by omega)
        have c0' := hbT.c0
        have c1' := hbT.c1
        have c2' := hbT.c2
        have v5' := hbV.c5
        simp only [Nat.zero_add] at v5'
        by_cases hlt : j < us.length
        · have hj9 : j < 150 := by have g1 := M.length_cntV us; have g2 := H2.out; rw [M.cntV] at g2; omega
          by_cases hc : tm < j
          · skip
            clear v5 c0 c1 c2
            go_wp2_with fail
            refine wp_mono' (prf_wp wr wr _ _ _ _ _ _ _ _ _ _ _ _ _ _ _ _ _ _ _ _ _ _ _ _ _ _ _ _ _ _ _ _ _ _ _ _ _ _ _ _ _ _ _ _ _ _ _ _ _ _ _ _ _ _ _ _ _ _ _ _ _ _ _ _ _ _ _ _ _ _ _ _ _ _ _ _ _ _ _ _ _ _ _ _ _ _ _ _ _ _ _ _ _ _ _ _ _ _ _ _ _ _ _ _ _ _ _ _ _ _ _ _ _ _ _ _ _ _ _ _ _ _ _ (by kernel_rfl) ⟨Below.refl _ _⟩) ?_
            rintro a' w5 ⟨⟨z96, z97, z98, z99, z100, z101, z102, z103, z104, z105, z106, z107, z108, z109, z110, rfl⟩, hS5⟩
            have hb5 := hS5.low
            go_wp2_with fail
            go_roundw
            case rel => exact ⟨j + 1, by omega, by simp, rfl, hW.trans (hb5.mono hsz)⟩
            case measure => simp [intOf]; omega
          · skip
            clear v5 c0 c1 c2
            go_wp2_with fail
            refine wp_mono' (prf_wp wr wr _ _ _ _ _ _ _ _ _ _ _ _ _ _ _ _ _ _ _ _ _ _ _ _ _ _ _ _ _ _ _ _ _ _ _ _ _ _ _ _ _ _ _ _ _ _ _ _ _ _ _ _ _ _ _ _ _ _ _ _ _ _ _ _ _ _ _ _ _ _ _ _ _ _ _ _ _ _ _ _ _ _ _ _ _ _ _ _ _ _ _ _ _ _ _ _ _ _ _ _ _ _ _ _ _ _ _ _ _ _ _ _ _ _ _ _ _ _ _ _ _ _ _ (by kernel_rfl) ⟨Below.refl _ _⟩) ?_
            rintro a' w5 ⟨⟨z96, z97, z98, z99, z100, z101, z102, z103, z104, z105, z106, z107, z108, z109, z110, rfl⟩, hS5⟩
            have hb5 := hS5.low
            go_wp2_with fail
            go_roundw
            case rel => exact ⟨j + 1, by omega, by simp, rfl, hW.trans (hb5.mono hsz)⟩
            case measure => simp [intOf]; omega
        · obtain rfl : j = us.length := by omega
          have u0 := hbV.c0
          have u1 := hbV.c1
          have u2 := hbV.c2
          have u3 := hbV.c3
          have u4 := hbV.c4
          have u6 := hbV.c6
          simp only [Nat.zero_add] at u1 u2 u3 u4 u6
          clear v5 c0 c1 c2
          go_wp2_with fail
          refine (T2.out _ B4).mono ?_
          rintro e w6 ⟨rfl, hb6⟩
          go_wp2_with fail
          go_ret
          exact ⟨rfl, B4.trans (hb6.mono B4.size)⟩
    have q1 : ((bs.length : Int) == 0) = true := by rw [hbs0]; rfl
    have q2 : (p == 0) = true := by rw [hp0]; rfl
    have q3 : ∀ W, (Op.equalIn 10000 27 (wn N) (wd 0 0 0 0)).run Tryd.prog W = .ok true W := fun W => by rw [he]; simp [hN0]
    have hfin : Hid (((r : Int) == 0) = (M.rowP 7 ts us us.length && ((us.length : Int) == (ts.length : Int)))) := by
      show _ = _
      have := HIFF.out
      rw [← M.rowP_all] at this
      simp only [hbs0, hp0, hN0, true_and, and_self] at this
      rw [Bool.eq_iff_iff, beq_iff_eq, Bool.and_eq_true]
      constructor
      · intro h
        obtain ⟨g1, g2⟩ := this.1 (by omega)
        refine ⟨g1, ?_⟩
        have g3 : us.length = ts.length := by simpa [M.manyP] using g2
        rw [g3]
        exact beq_self_eq_true _
      · rintro ⟨g1, g2⟩
        have g3 : us.length = ts.length := by have := eq_of_beq g2; omega
        have := this.2 ⟨g1, by simpa [M.manyP] using g3⟩
        omega
    clear he HIFF hiff hp0 hbs0 hN0
    go_wp2_with fail
    clear v0 v1 v2 v3 v4 v6 q1 q2 q3
    go_loopw [7, 9] (fun x i wr => ∃ j : Nat, j ≤ us.length ∧ i = .int .i64 j ∧ x = .bool (M.rowP 7 ts us j) ∧ Below w3.heap.size w3 wr) (fun _ i _ => us.length - (intOf i).toNat)
    case atStart => exact ⟨0, by omega, rfl, rfl, Below.refl _ _⟩
    case round =>
      obtain ⟨j, hj, rfl, rfl, hW⟩ := hrel
      have B4 := B3.trans (hW.mono B3.size)
      have hsz := hW.size
      replace hbT := hbT.from_ hW (by omega)
      replace hbV := hbV.from_ hW (by omega)
      have c0' := hbT.c0
      have c1' := hbT.c1
      have c2' := hbT.c2
      have v5' := hbV.c5
      simp only [Nat.zero_add] at v5'
      have hbs : w.heap.size < wr.heap.size := by omega
      have hbs2 : w.heap.size + 1 < wr.heap.size := by omega
      by_cases hlt : j < us.length
      · have hj9 : j < 150 := by have g1 := M.length_cntV us; have g2 := H2.out; rw [M.cntV] at g2; omega
        by_cases hc : tm < j
        · skip
          have hpkE : tm = M.partK 7 ts.length j := by
            have := HTM.out
            unfold M.partK
            rw [if_pos rfl]
            omega
          have hpk : tm < ts.length := by rw [hpkE]; exact hpart.out j
          obtain ⟨bv, ov, N', bs', us', p', ab', cb', av', cv', rfl, hbv0, hxk, hE, hV'⟩ := (G.out wr B4).2.v.at_ hlt
          obtain ⟨bt, ot, k', m', ts', at', ct', rfl, hbt0, hti, e0, e1, e2, hT'⟩ := (G.out wr B4).1.at_ hpk
          have hcT : M.cntT (.mk k' m' ts') ≤ 100 := by
            have g1 := M.cntT_part (List.mem_of_getElem? hti)
            have g2 := H1.out
            rw [M.cntT] at g2
            omega
          have hcV : M.cntV (.mk N' bs' us' p') ≤ 200 := by
            have g1 := M.cntV_part (List.mem_of_getElem? hxk)
            have g2 := H2.out
            rw [M.cntV] at g2
            omega
          have HN := Lib.hid (M.rowP_next (k := 7) (j := j) (hpkE ▸ hti) hxk)
          have HD : PD (SB wr) w.heap.size bt ot ts.length ct tm bv ov us.length cap j k' m' at' ts'.length ct' N' ab' bs'.length cb' av' us'.length cv' p' (M.fitsV (.mk k' m' ts') (.mk N' bs' us' p')) :=
            { hp := hpk, hj := hlt, hp9 := by omega, hj9 := by omega
              c := fun W hC => ⟨(hbT.from_ hC.low hbs).c2, by have := (hbV.from_ hC.low hbs2).c5; simpa using this⟩
              t := fun W hC => ⟨(hC.low.cell (p := ⟨bt, ot + tm * 3, none⟩) hbt0).trans e0, (hC.low.cell (p := ⟨bt, ot + tm * 3 + 1, none⟩) hbt0).trans e1, (hC.low.cell (p := ⟨bt, ot + tm * 3 + 2, none⟩) hbt0).trans e2⟩
              v := fun W hC => hE.from_ hC.low hbv0
              f := fun W hC => (HS.out.fits k' m' ts' at' ct' N' bs' us' p' ab' cb' av' cv' W ((hT'.from_ hC.low).mono hC.low.size) ((hV'.from_ hC.low).mono hC.low.size) hcT hcV).mono fun _ _ h => ⟨h.1, ⟨hC.low.trans (h.2.mono hC.low.size)⟩⟩ }
          generalize M.fitsV (.mk k' m' ts') (.mk N' bs' us' p') = r' at *
          generalize M.rowP 7 ts us j = q at *
          clear hpkE v5 c0 c1 c2 hcT hcV hT' hV' hE e0 e1 e2 hti hxk hpk
          cases q with
          | false =>
            clear HD
            go_wp2_with fail
            refine wp_mono' (prf_wp wr wr _ _ _ _ _ _ _ _ _ _ _ _ _ _ _ _ _ _ _ _ _ _ _ _ _ _ _ _ _ _ _ _ _ _ _ _ _ _ _ _ _ _ _ _ _ _ _ _ _ _ _ _ _ _ _ _ _ _ _ _ _ _ _ _ _ _ _ _ _ _ _ _ _ _ _ _ _ _ _ _ _ _ _ _ _ _ _ _ _ _ _ _ _ _ _ _ _ _ _ _ _ _ _ _ _ _ _ _ _ _ _ _ _ _ _ _ _ _ _ _ _ _ _ (by kernel_rfl) ⟨Below.refl _ _⟩) ?_
            rintro a' w5 ⟨⟨z96, z97, z98, z99, z100, z101, z102, z103, z104, z105, z106, z107, z108, z109, z110, rfl⟩, hS5⟩
            have hb5 := hS5.low
            go_wp2_with fail
            go_roundw
            case rel => exact ⟨j + 1, by omega, by simp, by rw [HN.out]; rfl, hW.trans (hb5.mono hsz)⟩
            case measure => simp [intOf]; omega
          | true =>
            go_wp2_with fail
            refine wp_mono' (prt_wp wr HD _ _ _ _ _ _ _ _ _ _ _ _ _ _ _ _ _ _ _ _ _ _ _ _ _ _ _ _ _ _ _ _ _ _ _ _ _ _ _ _ _ _ _ _ _ _ _ _ _ _ _ _ _ _ _ _ _ _ _ _ _ _ _ _ _ _ _ _ _ _ _ _ _ _ _ _ _ _ _ _ _ _ _ _ _ _ _ _ _ _ _ _ _ _ _ _ _ _ _ _ _ _ _ _ _ _ _ _ _ _ _ _ _ _ _ _ _ _ _ (by kernel_rfl) ⟨Below.refl _ _⟩) ?_
            rintro a' w5 ⟨⟨z96, z97, z98, z99, z100, z101, z102, z103, z104, z105, z106, z107, z108, z109, z110, rfl⟩, hS5⟩
            have hb5 := hS5.low
            clear HD
            go_wp2_with fail
            go_roundw
            case rel => exact ⟨j + 1, by omega, by simp, by rw [HN.out, Bool.true_and, beq_dec], hW.trans (hb5.mono hsz)⟩
            case measure => simp [intOf]; omega
        · skip
          have hpkE : j = M.partK 7 ts.length j := by
            have := HTM.out
            unfold M.partK
            rw [if_pos rfl]
            omega
          have hpk : j < ts.length := by rw [hpkE]; exact hpart.out j
          obtain ⟨bv, ov, N', bs', us', p', ab', cb', av', cv', rfl, hbv0, hxk, hE, hV'⟩ := (G.out wr B4).2.v.at_ hlt
          obtain ⟨bt, ot, k', m', ts', at', ct', rfl, hbt0, hti, e0, e1, e2, hT'⟩ := (G.out wr B4).1.at_ hpk
          have hcT : M.cntT (.mk k' m' ts') ≤ 100 := by
            have g1 := M.cntT_part (List.mem_of_getElem? hti)
            have g2 := H1.out
            rw [M.cntT] at g2
            omega
          have hcV : M.cntV (.mk N' bs' us' p') ≤ 200 := by
            have g1 := M.cntV_part (List.mem_of_getElem? hxk)
            have g2 := H2.out
            rw [M.cntV] at g2
            omega
          have HN := Lib.hid (M.rowP_next (k := 7) (j := j) (hpkE ▸ hti) hxk)
          have HD : PD (SB wr) w.heap.size bt ot ts.length ct j bv ov us.length cap j k' m' at' ts'.length ct' N' ab' bs'.length cb' av' us'.length cv' p' (M.fitsV (.mk k' m' ts') (.mk N' bs' us' p')) :=
            { hp := hpk, hj := hlt, hp9 := by omega, hj9 := by omega
              c := fun W hC => ⟨(hbT.from_ hC.low hbs).c2, by have := (hbV.from_ hC.low hbs2).c5; simpa using this⟩
              t := fun W hC => ⟨(hC.low.cell (p := ⟨bt, ot + j * 3, none⟩) hbt0).trans e0, (hC.low.cell (p := ⟨bt, ot + j * 3 + 1, none⟩) hbt0).trans e1, (hC.low.cell (p := ⟨bt, ot + j * 3 + 2, none⟩) hbt0).trans e2⟩
              v := fun W hC => hE.from_ hC.low hbv0
              f := fun W hC => (HS.out.fits k' m' ts' at' ct' N' bs' us' p' ab' cb' av' cv' W ((hT'.from_ hC.low).mono hC.low.size) ((hV'.from_ hC.low).mono hC.low.size) hcT hcV).mono fun _ _ h => ⟨h.1, ⟨hC.low.trans (h.2.mono hC.low.size)⟩⟩ }
          generalize M.fitsV (.mk k' m' ts') (.mk N' bs' us' p') = r' at *
          generalize M.rowP 7 ts us j = q at *
          clear hpkE v5 c0 c1 c2 hcT hcV hT' hV' hE e0 e1 e2 hti hxk hpk
          cases q with
          | false =>
            clear HD
            go_wp2_with fail
            refine wp_mono' (prf_wp wr wr _ _ _ _ _ _ _ _ _ _ _ _ _ _ _ _ _ _ _ _ _ _ _ _ _ _ _ _ _ _ _ _ _ _ _ _ _ _ _ _ _ _ _ _ _ _ _ _ _ _ _ _ _ _ _ _ _ _ _ _ _ _ _ _ _ _ _ _ _ _ _ _ _ _ _ _ _ _ _ _ _ _ _ _ _ _ _ _ _ _ _ _ _ _ _ _ _ _ _ _ _ _ _ _ _ _ _ _ _ _ _ _ _ _ _ _ _ _ _ _ _ _ _ (by kernel_rfl) ⟨Below.refl _ _⟩) ?_
            rintro a' w5 ⟨⟨z96, z97, z98, z99, z100, z101, z102, z103, z104, z105, z106, z107, z108, z109, z110, rfl⟩, hS5⟩
            have hb5 := hS5.low
            go_wp2_with fail
            go_roundw
            case rel => exact ⟨j + 1, by omega, by simp, by rw [HN.out]; rfl, hW.trans (hb5.mono hsz)⟩
            case measure => simp [intOf]; omega
          | true =>
            go_wp2_with fail
            refine wp_mono' (prt_wp wr HD _ _ _ _ _ _ _ _ _ _ _ _ _ _ _ _ _ _ _ _ _ _ _ _ _ _ _ _ _ _ _ _ _ _ _ _ _ _ _ _ _ _ _ _ _ _ _ _ _ _ _ _ _ _ _ _ _ _ _ _ _ _ _ _ _ _ _ _ _ _ _ _ _ _ _ _ _ _ _ _ _ _ _ _ _ _ _ _ _ _ _ _ _ _ _ _ _ _ _ _ _ _ _ _ _ _ _ _ _ _ _ _ _ _ _ _ _ _ _ (by kernel_rfl) ⟨Below.refl _ _⟩) ?_
            rintro a' w5 ⟨⟨z96, z97, z98, z99, z100, z101, z102, z103, z104, z105, z106, z107, z108, z109, z110, rfl⟩, hS5⟩
            have hb5 := hS5.low
            clear HD
            go_wp2_with fail
            go_roundw
            case rel => exact ⟨j + 1, by omega, by simp, by rw [HN.out, Bool.true_and, beq_dec], hW.trans (hb5.mono hsz)⟩
            case measure => simp [intOf]; omega
      · obtain rfl : j = us.length := by omega
        have u0 := hbV.c0
        have u1 := hbV.c1
        have u2 := hbV.c2
        have u3 := hbV.c3
        have u4 := hbV.c4
        have u6 := hbV.c6
        simp only [Nat.zero_add] at u1 u2 u3 u4 u6
        generalize M.rowP 7 ts us us.length = q at *
        clear v5 c0 c1 c2
        cases q with
        | false =>
          have hf2 : ((r : Int) == 0) = false := by rw [hfin.out]; rfl
          go_wp2_with fail
          refine (T2.out _ B4).mono ?_
          rintro e w6 ⟨rfl, hb6⟩
          go_wp2_with fail
          go_ret
          exact ⟨rfl, B4.trans (hb6.mono B4.size)⟩
        | true =>
          have HF := Lib.hid hfin.out
          go_wp2_with fail
          refine (T2.out _ B4).mono ?_
          rintro e w6 ⟨rfl, hb6⟩
          go_wp2_with fail
          go_ret
          have hh := HF.out
          simp only [Bool.true_and] at hh
          rw [hh]
          exact ⟨by simp, B4.trans (hb6.mono B4.size)⟩
end Go.Proofs.YtmlkccbhdhgoeaaDoor
