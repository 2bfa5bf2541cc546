/- Values in memory have numbers of 256 bits. The reference's Same, of values. What shape.Same must do, of great values too. -/
import Derived.Test.YtemnjoiajmcpjaaGreatDoorK05
import Derived.Test.YtemnjoiajmcpjaaGreatDoorK04
namespace Go.Proofs.YtemnjoiajmcpjaaGreatDoor
open Go Go.RowKit

theorem M.inVs_of : ∀ {vs : List M.Va}, (∀ v ∈ vs, M.inV v) → M.inVs vs
  | [], _ => trivial
  | v :: vs, h => ⟨h v (by simp), M.inVs_of fun w hw => h w (by simp [hw])⟩
theorem LayV.inVs {w : World} {n : Nat} {vs : List M.Va} {v : Value} (h : LayV w n vs v) : M.inVs vs := by
  induction h with
  | nil_ hm => exact trivial
  | row U V hb hc hm hN c rb r ih =>
    refine M.inVs_of fun x hx => ?_
    obtain ⟨i, hi⟩ := List.mem_iff_getElem?.1 hx
    obtain ⟨N, bs, us, p⟩ := x
    exact ⟨hN i N bs us p hi, ih i N bs us p hi⟩
theorem Vl.inV {w : World} {n N : Nat} {bs : List Bool} {us : List M.Va} {p : Int} {ab : Option Addr} {cb : Nat} {au : Option Addr} {cu : Nat} (h : Vl w n N bs us ab cb au cu) : M.inV (.mk N bs us p) := ⟨h.hN, h.v.inVs⟩
/-- The box of a value. -/
theorem Cells7.third {w : World} (o o' : Obj) (N : Nat) (u v : Value) (p : Int) (t : TypeId) : Cells7 (((w.alloc o).alloc o').alloc (.cells #[.int .u64 (M.pt 0 N), .int .u64 (M.pt 1 N), .int .u64 (M.pt 2 N), .int .u64 (M.pt 3 N), u, v, .int .i64 p] t)) (w.heap.size + 1 + 1) 0 N u v p := by
  have := Cells7.new ((w.alloc o).alloc o') N u v p t
  rwa [World.size_alloc, World.size_alloc] at this
theorem Cells7.second {w : World} (o : Obj) (N : Nat) (u v : Value) (p : Int) (t : TypeId) : Cells7 ((w.alloc o).alloc (.cells #[.int .u64 (M.pt 0 N), .int .u64 (M.pt 1 N), .int .u64 (M.pt 2 N), .int .u64 (M.pt 3 N), u, v, .int .i64 p] t)) (w.heap.size + 1) 0 N u v p := by
  have := Cells7.new (w.alloc o) N u v p t
  rwa [World.size_alloc] at this
def ZWorks : Prop := ∀ w : World, Calls Tryz.prog 9 #[] w fun e w' => e = .returned (.bool true) ∧ Below w.heap.size w w'
end Go.Proofs.YtemnjoiajmcpjaaGreatDoor
namespace Go.Proofs.YtemnjoiajmcpjaaGreatDoor
open Go Go.RowKit

theorem M.sameV_eq {N N2 : Nat} {bs bs2 : List Bool} {us us2 : List M.Va} {p p2 : Int} : M.sameV (.mk N bs us p) (.mk N2 bs2 us2 p2) = (N == N2 && p == p2 && bs == bs2 && (us.length == us2.length && M.sameVs us us2)) := by rw [M.sameV]

set_option maxRecDepth 100000 in
set_option maxHeartbeats 16000000 in
theorem tsame_n (z : Nat) : ∀ (N : Nat) (bs : List Bool) (us : List M.Va) (p : Int) (ab : Option Addr) (cb : Nat) (au : Option Addr) (cu : Nat) (N2 : Nat) (bs2 : List Bool) (us2 : List M.Va) (p2 : Int) (abx : Option Addr) (cb2 : Nat) (aux_ : Option Addr) (cu2x : Nat) (w : World),
    SizeOf.sizeOf us ≤ z → Vl w w.heap.size N bs us ab cb au cu → Vl w w.heap.size N2 bs2 us2 abx cb2 aux_ cu2x →
    Calls Tryz.prog 15 #[vv N (.slice ab bs.length cb) (.slice au us.length cu) p, vv N2 (.slice abx bs2.length cb2) (.slice aux_ us2.length cu2x) p2] w fun e w' => e = .returned (.bool (M.sameV (.mk N bs us p) (.mk N2 bs2 us2 p2))) ∧ Below w.heap.size w w' := by
  induction z with
  | zero => intro N bs us p ab cb au cu N2 bs2 us2 p2 abx cb2 aux_ cu2x w h; cases us <;> simp at h
  | succ z ih =>
    intro N bs us p ab cb au cu N2 bs2 us2 p2 abx cb2 aux_ cu2x w hs hV hV2
    have hbb : ∀ o o', Below w.heap.size w ((w.alloc o).alloc o') := fun o o' => ((Below.refl _ w).alloc (Nat.le_refl _) o).alloc (by simp) o'
    have he := fun W => eqN hV.hN hV2.hN W
    have hl1 := hV.long
    have hl2 := hV2.long
    rw [M.sameV_eq]
    by_cases hN : N = N2
    · by_cases hp : p = p2
      · by_cases hlb : bs.length = bs2.length
        · by_cases hlu : us.length = us2.length
          · subst hN hp
            obtain ⟨w0, hw0⟩ : ∃ w0, (w.alloc (.cells #[.int .u64 (M.pt 0 N), .int .u64 (M.pt 1 N), .int .u64 (M.pt 2 N), .int .u64 (M.pt 3 N), .slice ab bs.length cb, .slice au us.length cu, .int .i64 p] 31)).alloc (.cells #[.int .u64 (M.pt 0 N), .int .u64 (M.pt 1 N), .int .u64 (M.pt 2 N), .int .u64 (M.pt 3 N), .slice abx bs2.length cb2, .slice aux_ us2.length cu2x, .int .i64 p] 31) = w0 := ⟨_, rfl⟩
            have hb0 : Below w.heap.size w w0 := by rw [← hw0]; exact hbb _ _
            have hz0 : w0.heap.size = w.heap.size + 2 := by rw [← hw0]; simp
            have hbA : Cells7 w0 w.heap.size 0 N (.slice ab bs.length cb) (.slice au us.length cu) p := by
              rw [← hw0]
              exact (Cells7.new w N (.slice ab bs.length cb) (.slice au us.length cu) p 31).from_ ((Below.refl _ _).alloc (Nat.le_refl _) _) (by simp)
            have hbB : Cells7 w0 (w.heap.size + 1) 0 N (.slice abx bs2.length cb2) (.slice aux_ us2.length cu2x) p := by
              rw [← hw0]
              have := Cells7.new (w.alloc (.cells #[.int .u64 (M.pt 0 N), .int .u64 (M.pt 1 N), .int .u64 (M.pt 2 N), .int .u64 (M.pt 3 N), .slice ab bs.length cb, .slice au us.length cu, .int .i64 p] 31)) N (.slice abx bs2.length cb2) (.slice aux_ us2.length cu2x) p 31
              rwa [show (w.alloc (.cells #[.int .u64 (M.pt 0 N), .int .u64 (M.pt 1 N), .int .u64 (M.pt 2 N), .int .u64 (M.pt 3 N), .slice ab bs.length cb, .slice au us.length cu, .int .i64 p] 31)).heap.size = w.heap.size + 1 by simp] at this
            have he2 : ∀ W, (Op.equalIn 10000 27 (wn N) (wn N)).run Tryz.prog W = .ok true W := fun W => by rw [eqN hV.hN hV.hN]; simp
            have hE : Hid ((N == N && p == p && bs == bs2 && (us.length == us2.length && M.sameVs us us2)) = (bs == bs2 && M.sameVs us us2)) := by show _ = _; simp [hlu]
            have a0 := hbA.c0
            have a1 := hbA.c1
            have a2 := hbA.c2
            have a3 := hbA.c3
            have a4 := hbA.c4
            have a5 := hbA.c5
            have a6 := hbA.c6
            have d0 := hbB.c0
            have d1 := hbB.c1
            have d2 := hbB.c2
            have d3 := hbB.c3
            have d4 := hbB.c4
            have d5 := hbB.c5
            have d6 := hbB.c6
            simp only [Nat.zero_add] at a1 a2 a3 a4 a5 a6 d1 d2 d3 d4 d5 d6
            have hlb' : ((bs.length : Int) != (bs2.length : Int)) = false := by rw [bne_eq_false_iff_eq]; omega
            have hlu' : ((us.length : Int) != (us2.length : Int)) = false := by rw [bne_eq_false_iff_eq]; omega
            have HLB := Lib.hid hlb
            have HLU := Lib.hid hlu
            clear he hbb hlb hlu
            rw [hE.out]
            go_enter Tryz.func15, Tryz.ntmps15
            go_wp2_with fail
            clear a0 a1 a2 a3 a4 a5 a6 d0 d1 d2 d3 d4 d5 d6 hw0 he2 hlb' hlu' hE
            go_loopw [5] (fun i wr => ∃ j : Nat, j ≤ bs.length ∧ i = .int .i64 j ∧ bs.take j = bs2.take j ∧ Below w0.heap.size w0 wr) (fun i _ => bs.length - (intOf i).toNat)
            case atStart => exact ⟨0, by omega, rfl, rfl, Below.refl _ _⟩
            case round =>
            obtain ⟨j, hj, rfl, hq, hW⟩ := hrel
            have hbW : Below w.heap.size w wr := hb0.trans (hW.mono (by omega))
            have hsz := hW.size
            replace hbA := hbA.from_ hW (by omega)
            replace hbB := hbB.from_ hW (by omega)
            have a4 := hbA.c4
            simp only [Nat.zero_add] at a4
            have hbs : w.heap.size < wr.heap.size := by omega
            have hbs2 : w.heap.size + 1 < wr.heap.size := by omega
            by_cases hlt : j < bs.length
            · obtain ⟨b1, o1, x, rfl, hb1l0, hx, cx⟩ := (hV.from_ hbW).b.at_ hlt
              obtain ⟨b2, o2, y, rfl, hb2l0, hy, cy⟩ := (hV2.from_ hbW).b.at_ (show j < bs2.length by have := HLB.out; omega)
              have hb1l : b1 < wr.heap.size := by omega
              have hb2l : b2 < wr.heap.size := by omega
              have hlt2 : j < bs2.length := by have := HLB.out; omega
              have HX := Lib.hid hx
              have HY := Lib.hid hy
              have HQ := Lib.hid hq
              have HV := Lib.hid hV
              have hj9 : (j : Int) < 9223372036854775807 := by omega
              clear hx hy hq ih hV hV2 HV
              go_wp2_with fail
              have mixed : Tryz.prog.follows .mixedOrders = true := by kernel_rfl
              refine region_quiet (C := fun W => Below wr.heap.size wr W) mixed (by kernel_rfl) (Below.drew (Below.refl _ _)) ?_
              refine quiet_val (.pointer (some ⟨w.heap.size, 4, none⟩)) (by rfl) (fun W hC => by go_simp) ?_
              simp only [Act.put, List.setIfInBounds_toArray, List.set_cons_zero, List.set_cons_succ]
              refine quiet_val (.slice (some ⟨b1, o1, none⟩) bs.length cb) (by rfl) (fun W hC => by have z := hbA.from_ hC hbs; have c4 := z.c4; simp only [Nat.zero_add] at c4; go_simp) ?_
              simp only [Act.put, List.setIfInBounds_toArray, List.set_cons_zero, List.set_cons_succ]
              refine quiet_val (.int .i64 j) (by rfl) (fun W hC => by go_simp) ?_
              simp only [Act.put, List.setIfInBounds_toArray, List.set_cons_zero, List.set_cons_succ]
              refine quiet_val (.pointer (some ⟨b1, o1 + j, none⟩)) (by rfl) (fun W hC => by go_simp) ?_
              simp only [Act.put, List.setIfInBounds_toArray, List.set_cons_zero, List.set_cons_succ]
              refine quiet_val (.bool x) (by rfl) (fun W hC => by have e := (hC.cell (p := ⟨b1, o1 + j, none⟩) hb1l).trans cx; go_simp) ?_
              simp only [Act.put, List.setIfInBounds_toArray, List.set_cons_zero, List.set_cons_succ]
              refine quiet_val (.pointer (some ⟨w.heap.size + 1, 4, none⟩)) (by rfl) (fun W hC => by go_simp) ?_
              simp only [Act.put, List.setIfInBounds_toArray, List.set_cons_zero, List.set_cons_succ]
              refine quiet_val (.slice (some ⟨b2, o2, none⟩) bs2.length cb2) (by rfl) (fun W hC => by have z := hbB.from_ hC hbs2; have c4 := z.c4; simp only [Nat.zero_add] at c4; go_simp) ?_
              simp only [Act.put, List.setIfInBounds_toArray, List.set_cons_zero, List.set_cons_succ]
              refine quiet_val (.int .i64 j) (by rfl) (fun W hC => by go_simp) ?_
              simp only [Act.put, List.setIfInBounds_toArray, List.set_cons_zero, List.set_cons_succ]
              refine quiet_val (.pointer (some ⟨b2, o2 + j, none⟩)) (by rfl) (fun W hC => by go_simp) ?_
              simp only [Act.put, List.setIfInBounds_toArray, List.set_cons_zero, List.set_cons_succ]
              refine quiet_val (.bool y) (by rfl) (fun W hC => by have e := (hC.cell (p := ⟨b2, o2 + j, none⟩) hb2l).trans cy; go_simp) ?_
              simp only [Act.put, List.setIfInBounds_toArray, List.set_cons_zero, List.set_cons_succ]
              refine quiet_val (.bool (x != y)) (by rfl) (fun W hC => by go_simp <;> (cases x <;> cases y <;> rfl)) ?_
              simp only [Act.put, List.setIfInBounds_toArray, List.set_cons_zero, List.set_cons_succ]
              refine wpQuiet_nil ?_
              intro w2 hb2
              clear hbA hbB cx cy a4
              by_cases hxy : x = y
              · subst hxy
                simp only [bne_self_eq_false]
                go_wp2_with fail
                go_roundw
                case rel => exact ⟨j + 1, by omega, by simp, by rw [M.row_next HX.out, M.row_next HY.out, HQ.out], hW.trans (hb2.mono hsz)⟩
                case measure => simp [intOf]; omega
              · have hb : (x != y) = true := by simpa using hxy
                have HF := Lib.hid (M.bits_first HX.out HY.out hxy)
                rw [hb]
                clear hj9 hxy hb
                go_wp2_with fail
                go_ret
                rw [HF.out, Bool.false_and]
                exact ⟨rfl, hbW.trans (hb2.mono hbW.size)⟩
            · obtain rfl : j = bs.length := by omega
              have hbb : bs = bs2 := by
                rw [List.take_length, HLB.out, List.take_length] at hq
                exact hq
              have HE : Hid ((bs == bs2 && M.sameVs us us2) = M.sameVs us us2) := by show _ = _; rw [hbb]; simp
              clear hq hbb
              go_wp2_with fail
              obtain ⟨wm, hwm⟩ : ∃ wm, wm = wr := ⟨_, rfl⟩
              subst hwm
              go_loopw [6] (fun i ws => ∃ i' : Nat, i' ≤ us.length ∧ i = .int .i64 i' ∧ M.sameVs (us.take i') (us2.take i') = true ∧ Below wm.heap.size wm ws) (fun i _ => us.length - (intOf i).toNat)
              case atStart => exact ⟨0, by omega, rfl, by simp [M.sameVs], Below.refl _ _⟩
              case round =>
                obtain ⟨i, hi, rfl, hq, hW2⟩ := hrel
                have hbW2 : Below w.heap.size w wr := hbW.trans (hW2.mono (by omega))
                have hsz2 := hW2.size
                replace hbA := hbA.from_ hW2 (by omega)
                replace hbB := hbB.from_ hW2 (by omega)
                have a5 := hbA.c5
                simp only [Nat.zero_add] at a5
                replace hbs : w.heap.size < wr.heap.size := by omega
                replace hbs2 : w.heap.size + 1 < wr.heap.size := by omega
                clear a4
                by_cases hlt3 : i < us.length
                · obtain ⟨b1, o1, M1, bs1, us1, p1, ab1, cb1, au1, cu1, rfl, hb1l0, hx, hE1, hV1'⟩ := (hV.from_ hbW2).v.at_ hlt3
                  have hlt4 : i < us2.length := by have := HLU.out; omega
                  obtain ⟨b2, o2, M2, bs2', us2', p2, ab2, cb2', au2, cu2, rfl, hb2l0, hy, hE2, hV2'⟩ := (hV2.from_ hbW2).v.at_ hlt4
                  have hb1l : b1 < wr.heap.size := by omega
                  have hb2l : b2 < wr.heap.size := by omega
                  have hsx := size_va hx
                  rw [M.Va.mk.sizeOf_spec] at hsx
                  have IH := Lib.hid (fun W (h : Below wr.heap.size wr W) => ih M1 bs1 us1 p1 ab1 cb1 au1 cu1 M2 bs2' us2' p2 ab2 cb2' au2 cu2 W (by omega) ((hV1'.from_ (h.mono hbW2.size)).mono (Nat.le_trans hbW2.size h.size)) ((hV2'.from_ (h.mono hbW2.size)).mono (Nat.le_trans hbW2.size h.size)))
                  have HN := Lib.hid (M.sameVs_next hx hy)
                  have HF := Lib.hid (fun h => M.sameVs_first (xs := us) (ys := us2) hx hy h)
                  rw [hq, Bool.true_and] at HN
                  generalize M.sameV (.mk M1 bs1 us1 p1) (.mk M2 bs2' us2' p2) = r at *
                  have hj9 : (i : Int) < 9223372036854775807 := by omega
                  clear ih hq hsx hx hy hV1' hV2' hV hV2
                  go_wp2_with fail
                  have mixed : Tryz.prog.follows .mixedOrders = true := by kernel_rfl
                  refine region_quiet (C := fun W => Below wr.heap.size wr W) mixed (by kernel_rfl) (Below.drew (Below.refl _ _)) ?_
                  refine quiet_val (.pointer (some ⟨w.heap.size, 5, none⟩)) (by rfl) (fun W hC => by go_simp) ?_
                  simp only [Act.put, List.setIfInBounds_toArray, List.set_cons_zero, List.set_cons_succ]
                  refine quiet_val (.slice (some ⟨b1, o1, none⟩) us.length cu) (by rfl) (fun W hC => by have z := hbA.from_ hC hbs; have c5 := z.c5; simp only [Nat.zero_add] at c5; go_simp) ?_
                  simp only [Act.put, List.setIfInBounds_toArray, List.set_cons_zero, List.set_cons_succ]
                  refine quiet_val (.int .i64 i) (by rfl) (fun W hC => by go_simp) ?_
                  simp only [Act.put, List.setIfInBounds_toArray, List.set_cons_zero, List.set_cons_succ]
                  refine quiet_val (.pointer (some ⟨b1, o1 + i * 7, none⟩)) (by rfl) (fun W hC => by go_simp) ?_
                  simp only [Act.put, List.setIfInBounds_toArray, List.set_cons_zero, List.set_cons_succ]
                  refine quiet_val (vv M1 (.slice ab1 bs1.length cb1) (.slice au1 us1.length cu1) p1) (by rfl) (fun W hC => by have z := hE1.from_ hC hb1l; have c0 := z.c0; have c1 := z.c1; have c2 := z.c2; have c3 := z.c3; have c4 := z.c4; have c5 := z.c5; have c6 := z.c6; go_simp) ?_
                  simp only [Act.put, List.setIfInBounds_toArray, List.set_cons_zero, List.set_cons_succ]
                  refine quiet_val (.pointer (some ⟨w.heap.size + 1, 5, none⟩)) (by rfl) (fun W hC => by go_simp) ?_
                  simp only [Act.put, List.setIfInBounds_toArray, List.set_cons_zero, List.set_cons_succ]
                  refine quiet_val (.slice (some ⟨b2, o2, none⟩) us2.length cu2x) (by rfl) (fun W hC => by have z := hbB.from_ hC hbs2; have c5 := z.c5; simp only [Nat.zero_add] at c5; go_simp) ?_
                  simp only [Act.put, List.setIfInBounds_toArray, List.set_cons_zero, List.set_cons_succ]
                  refine quiet_val (.int .i64 i) (by rfl) (fun W hC => by go_simp) ?_
                  simp only [Act.put, List.setIfInBounds_toArray, List.set_cons_zero, List.set_cons_succ]
                  refine quiet_val (.pointer (some ⟨b2, o2 + i * 7, none⟩)) (by rfl) (fun W hC => by go_simp) ?_
                  simp only [Act.put, List.setIfInBounds_toArray, List.set_cons_zero, List.set_cons_succ]
                  refine quiet_val (vv M2 (.slice ab2 bs2'.length cb2') (.slice au2 us2'.length cu2) p2) (by rfl) (fun W hC => by have z := hE2.from_ hC hb2l; have c0 := z.c0; have c1 := z.c1; have c2 := z.c2; have c3 := z.c3; have c4 := z.c4; have c5 := z.c5; have c6 := z.c6; go_simp) ?_
                  simp only [Act.put, List.setIfInBounds_toArray, List.set_cons_zero, List.set_cons_succ]
                  refine quiet_call (.bool r) 15 #[vv M1 (.slice ab1 bs1.length cb1) (.slice au1 us1.length cu1) p1, vv M2 (.slice ab2 bs2'.length cb2') (.slice au2 us2'.length cu2) p2] (by rfl) (fun W hC => by go_simp) (fun W hC => (IH.out W hC).mono fun _ _ h => ⟨h.1, hC.trans (h.2.mono hC.size)⟩) ?_
                  simp only [Act.put, List.setIfInBounds_toArray, List.set_cons_zero, List.set_cons_succ]
                  refine quiet_val (.bool (!r)) (by rfl) (fun W hC => by go_simp) ?_
                  simp only [Act.put, List.setIfInBounds_toArray, List.set_cons_zero, List.set_cons_succ]
                  refine wpQuiet_nil ?_
                  intro w2 hb2
                  clear hbA hbB hE1 hE2 a5 IH
                  cases r with
                  | true =>
                    simp only [Bool.not_true]
                    clear hj9
                    have hj9 : (i : Int) + 1 ≤ 9223372036854775807 := by omega
                    go_wp2_with fail
                    go_roundw
                    case rel => exact ⟨i + 1, by omega, by simp, HN.out, hW2.trans (hb2.mono hsz2)⟩
                    case measure => simp [intOf]; omega
                  | false =>
                    have HG := Lib.hid (HF.out rfl)
                    clear hj9 HN HF hi hlt3 hlt4 hl1 hl2 hb1l0 hb2l0 hb1l hb2l hbs hbs2
                    go_wp2_with fail
                    go_ret
                    rw [HE.out, HG.out]
                    exact ⟨rfl, hbW2.trans (hb2.mono hbW2.size)⟩
                · obtain rfl : i = us.length := by omega
                  rw [List.take_length, HLU.out, List.take_length] at hq
                  have HQ := Lib.hid hq
                  clear hq
                  go_wp2_with fail
                  go_ret
                  rw [HE.out, HQ.out]
                  exact ⟨rfl, hbW2⟩
          · have hlu' : ((us.length : Int) != (us2.length : Int)) = true := by simp; omega
            subst hN hp
            have hlb' : ((bs.length : Int) != (bs2.length : Int)) = false := by rw [bne_eq_false_iff_eq]; omega
            have he2 : ∀ W, (Op.equalIn 10000 27 (wn N) (wn N)).run Tryz.prog W = .ok true W := fun W => by rw [eqN hV.hN hV.hN]; simp
            have E : Hid ((N == N && p == p && bs == bs2 && (us.length == us2.length && M.sameVs us us2)) = false) := by show _ = _; simp [hlu]
            rw [E.out]
            clear he hlu hlb ih
            go_enter Tryz.func15, Tryz.ntmps15
            go_wp2_with fail
            go_ret
            exact ⟨rfl, hbb _ _⟩
        · have hlb' : ((bs.length : Int) != (bs2.length : Int)) = true := by simp; omega
          subst hN hp
          have he2 : ∀ W, (Op.equalIn 10000 27 (wn N) (wn N)).run Tryz.prog W = .ok true W := fun W => by rw [eqN hV.hN hV.hN]; simp
          have E : Hid ((N == N && p == p && bs == bs2 && (us.length == us2.length && M.sameVs us us2)) = false) := by
            show _ = _
            have : (bs == bs2) = false := by rw [beq_eq_false_iff_ne]; intro h; exact hlb (by rw [h])
            simp [this]
          rw [E.out]
          clear he hlb ih
          go_enter Tryz.func15, Tryz.ntmps15
          go_wp2_with fail
          go_ret
          exact ⟨rfl, hbb _ _⟩
      · subst hN
        have he2 : ∀ W, (Op.equalIn 10000 27 (wn N) (wn N)).run Tryz.prog W = .ok true W := fun W => by rw [eqN hV.hN hV.hN]; simp
        have hp' : (p != p2) = true := by simpa using hp
        have E : Hid ((N == N && p == p2 && bs == bs2 && (us.length == us2.length && M.sameVs us us2)) = false) := by show _ = _; simp [hp]
        rw [E.out]
        clear he ih hp
        go_enter Tryz.func15, Tryz.ntmps15
        go_wp2_with fail
        go_ret
        exact ⟨rfl, hbb _ _⟩
    · have he2 : ∀ W, (Op.equalIn 10000 27 (wn N) (wn N2)).run Tryz.prog W = .ok false W := fun W => by rw [he]; simp [hN]
      have E : Hid ((N == N2 && p == p2 && bs == bs2 && (us.length == us2.length && M.sameVs us us2)) = false) := by show _ = _; simp [hN]
      rw [E.out]
      clear he ih hN
      go_enter Tryz.func15, Tryz.ntmps15
      go_wp2_with fail
      go_ret
      exact ⟨rfl, hbb _ _⟩
end Go.Proofs.YtemnjoiajmcpjaaGreatDoor
namespace Go.Proofs.YtemnjoiajmcpjaaGreatDoor
open Go Go.RowKit

def SSame8Ok : Prop := ∀ (N : Nat) (bs : List Bool) (us : List M.Va) (p : Int) (ab : Option Addr) (cb : Nat) (au : Option Addr) (cu : Nat) (N2 : Nat) (bs2 : List Bool) (us2 : List M.Va) (p2 : Int) (ab2 : Option Addr) (cb2 : Nat) (au2 : Option Addr) (cu2 : Nat) (W : World), Vl W W.heap.size N bs us ab cb au cu → Vl W W.heap.size N2 bs2 us2 ab2 cb2 au2 cu2 → M.cntV (.mk N bs us p) ≤ 6000 → M.cntV (.mk N2 bs2 us2 p2) ≤ 6000 →
  Calls Tryz.prog 17 #[vv N (.slice ab bs.length cb) (.slice au us.length cu) p, vv N2 (.slice ab2 bs2.length cb2) (.slice au2 us2.length cu2) p2] W fun e w' => e = .returned (.bool (M.sameV (.mk N bs us p) (.mk N2 bs2 us2 p2))) ∧ Below W.heap.size W w'
end Go.Proofs.YtemnjoiajmcpjaaGreatDoor
