/- Values in memory have numbers of 256 bits. The reference's Same, of values. What shape.Same must do, of great values too. What the reference's Get must do. SszGets. A type that comes in, as it lies in memory. A word that comes in is a number's. A value that comes in, as it lies in memory. What the calls of package shape must do; the example of layer 7. -/
import Derived.Test.YtgloapcfmlijlaaGreatDoorK05
import Derived.Test.YtgloapcfmlijlaaGreatDoorK04
import Derived.Test.YtgloapcfmlijlaaGreatDoorK01
import Derived.Lib.SmallJoins
import Derived.Deep.Slices
import Derived.SizedLaws
import Derived.Test.YtgloapcfmlijlaaGreatDoorRows
import Derived.ProofKit
import Derived.OpenShut
namespace Go.Proofs.YtgloapcfmlijlaaGreatDoor
open Go Go.RowKit

theorem M.inVs_of : ∀ {vs : List M.Va}, (∀ v ∈ vs, M.inV v) → M.inVs vs
  | [], _ => trivial
  | v :: vs, h => ⟨h v (by simp), M.inVs_of fun w hw => h w (by simp [hw])⟩
theorem LayV.inVs {w : World} {n : Nat} {vs : List M.Va} {v : Value} (h : LayV w n vs v) : M.inVs vs := by
  induction h with
  | nil_ hm => exact trivial
  | row U V hb hc hm hN c rb r ih =>
    refine M.inVs_of fun x hx => ?_
    obtain ⟨i, hi⟩ := List.mem_iff_getElem?.1 hx
    obtain ⟨N, bs, us, p⟩ := x
    exact ⟨hN i N bs us p hi, ih i N bs us p hi⟩
theorem Vl.inV {w : World} {n N : Nat} {bs : List Bool} {us : List M.Va} {p : Int} {ab : Option Addr} {cb : Nat} {au : Option Addr} {cu : Nat} (h : Vl w n N bs us ab cb au cu) : M.inV (.mk N bs us p) := ⟨h.hN, h.v.inVs⟩
theorem Cells7.second {w : World} (o : Obj) (N : Nat) (u v : Value) (p : Int) (t : TypeId) : Cells7 ((w.alloc o).alloc (.cells #[.int .u64 (M.pt 0 N), .int .u64 (M.pt 1 N), .int .u64 (M.pt 2 N), .int .u64 (M.pt 3 N), u, v, .int .i64 p] t)) (w.heap.size + 1) 0 N u v p := by
  have := Cells7.new (w.alloc o) N u v p t
  rwa [World.size_alloc] at this
def ZWorks : Prop := ∀ w : World, Calls Tryz.prog 10 #[] w fun e w' => e = .returned (.bool true) ∧ Below w.heap.size w w'
end Go.Proofs.YtgloapcfmlijlaaGreatDoor
namespace Go.Proofs.YtgloapcfmlijlaaGreatDoor
open Go Go.RowKit

theorem M.sameV_eq {N N2 : Nat} {bs bs2 : List Bool} {us us2 : List M.Va} {p p2 : Int} : M.sameV (.mk N bs us p) (.mk N2 bs2 us2 p2) = (N == N2 && p == p2 && bs == bs2 && (us.length == us2.length && M.sameVs us us2)) := by rw [M.sameV]

set_option maxRecDepth 100000 in
set_option maxHeartbeats 16000000 in
theorem tsame_n (z : Nat) : ∀ (N : Nat) (bs : List Bool) (us : List M.Va) (p : Int) (ab : Option Addr) (cb : Nat) (au : Option Addr) (cu : Nat) (N2 : Nat) (bs2 : List Bool) (us2 : List M.Va) (p2 : Int) (abx : Option Addr) (cb2 : Nat) (aux_ : Option Addr) (cu2x : Nat) (w : World),
    SizeOf.sizeOf us ≤ z → Vl w w.heap.size N bs us ab cb au cu → Vl w w.heap.size N2 bs2 us2 abx cb2 aux_ cu2x →
    Calls Tryz.prog 14 #[vv N (.slice ab bs.length cb) (.slice au us.length cu) p, vv N2 (.slice abx bs2.length cb2) (.slice aux_ us2.length cu2x) p2] w fun e w' => e = .returned (.bool (M.sameV (.mk N bs us p) (.mk N2 bs2 us2 p2))) ∧ Below w.heap.size w w' := by
  induction z with
  | zero => intro N bs us p ab cb au cu N2 bs2 us2 p2 abx cb2 aux_ cu2x w h; cases us <;> simp at h
  | succ z ih =>
    intro N bs us p ab cb au cu N2 bs2 us2 p2 abx cb2 aux_ cu2x w hs hV hV2
    have hbb : ∀ o o', Below w.heap.size w ((w.alloc o).alloc o') := fun o o' => ((Below.refl _ w).alloc (Nat.le_refl _) o).alloc (by simp) o'
    have he := fun W => eqN hV.hN hV2.hN W
    have hl1 := hV.long
    have hl2 := hV2.long
    rw [M.sameV_eq]
    by_cases hN : N = N2
    · by_cases hp : p = p2
      · by_cases hlb : bs.length = bs2.length
        · by_cases hlu : us.length = us2.length
          · subst hN hp
            obtain ⟨w0, hw0⟩ : ∃ w0, (w.alloc (.cells #[.int .u64 (M.pt 0 N), .int .u64 (M.pt 1 N), .int .u64 (M.pt 2 N), .int .u64 (M.pt 3 N), .slice ab bs.length cb, .slice au us.length cu, .int .i64 p] 33)).alloc (.cells #[.int .u64 (M.pt 0 N), .int .u64 (M.pt 1 N), .int .u64 (M.pt 2 N), .int .u64 (M.pt 3 N), .slice abx bs2.length cb2, .slice aux_ us2.length cu2x, .int .i64 p] 33) = w0 := ⟨_, rfl⟩
            have hb0 : Below w.heap.size w w0 := by rw [← hw0]; exact hbb _ _
            have hz0 : w0.heap.size = w.heap.size + 2 := by rw [← hw0]; simp
            have hbA : Cells7 w0 w.heap.size 0 N (.slice ab bs.length cb) (.slice au us.length cu) p := by
              rw [← hw0]
              exact (Cells7.new w N (.slice ab bs.length cb) (.slice au us.length cu) p 33).from_ ((Below.refl _ _).alloc (Nat.le_refl _) _) (by simp)
            have hbB : Cells7 w0 (w.heap.size + 1) 0 N (.slice abx bs2.length cb2) (.slice aux_ us2.length cu2x) p := by
              rw [← hw0]
              have := Cells7.new (w.alloc (.cells #[.int .u64 (M.pt 0 N), .int .u64 (M.pt 1 N), .int .u64 (M.pt 2 N), .int .u64 (M.pt 3 N), .slice ab bs.length cb, .slice au us.length cu, .int .i64 p] 33)) N (.slice abx bs2.length cb2) (.slice aux_ us2.length cu2x) p 33
              rwa [show (w.alloc (.cells #[.int .u64 (M.pt 0 N), .int .u64 (M.pt 1 N), .int .u64 (M.pt 2 N), .int .u64 (M.pt 3 N), .slice ab bs.length cb, .slice au us.length cu, .int .i64 p] 33)).heap.size = w.heap.size + 1 by simp] at this
            have he2 : ∀ W, (Op.equalIn 10000 29 (wn N) (wn N)).run Tryz.prog W = .ok true W := fun W => by rw [eqN hV.hN hV.hN]; simp
            have hE : Hid ((N == N && p == p && bs == bs2 && (us.length == us2.length && M.sameVs us us2)) = (bs == bs2 && M.sameVs us us2)) := by show _ = _; simp [hlu]
            have a0 := hbA.c0
            have a1 := hbA.c1
            have a2 := hbA.c2
            have a3 := hbA.c3
            have a4 := hbA.c4
            have a5 := hbA.c5
            have a6 := hbA.c6
            have d0 := hbB.c0
            have d1 := hbB.c1
            have d2 := hbB.c2
            have d3 := hbB.c3
            have d4 := hbB.c4
            have d5 := hbB.c5
            have d6 := hbB.c6
            simp only [Nat.zero_add] at a1 a2 a3 a4 a5 a6 d1 d2 d3 d4 d5 d6
            have hlb' : ((bs.length : Int) != (bs2.length : Int)) = false := by rw [bne_eq_false_iff_eq]; omega
            have hlu' : ((us.length : Int) != (us2.length : Int)) = false := by rw [bne_eq_false_iff_eq]; omega
            have HLB := Lib.hid hlb
            have HLU := Lib.hid hlu
            clear he hbb hlb hlu
            rw [hE.out]
            go_enter Tryz.func14, Tryz.ntmps14
            go_wp2_with fail
            clear a0 a1 a2 a3 a4 a5 a6 d0 d1 d2 d3 d4 d5 d6 hw0 he2 hlb' hlu' hE
            go_loopw [5] (fun i wr => ∃ j : Nat, j ≤ bs.length ∧ i = .int .i64 j ∧ bs.take j = bs2.take j ∧ Below w0.heap.size w0 wr) (fun i _ => bs.length - (intOf i).toNat)
            case atStart => exact ⟨0, by omega, rfl, rfl, Below.refl _ _⟩
            case round =>
            obtain ⟨j, hj, rfl, hq, hW⟩ := hrel
            have hbW : Below w.heap.size w wr := hb0.trans (hW.mono (by omega))
            have hsz := hW.size
            replace hbA := hbA.from_ hW (by omega)
            replace hbB := hbB.from_ hW (by omega)
            have a4 := hbA.c4
            simp only [Nat.zero_add] at a4
            have hbs : w.heap.size < wr.heap.size := by omega
            have hbs2 : w.heap.size + 1 < wr.heap.size := by omega
            by_cases hlt : j < bs.length
            · obtain ⟨b1, o1, x, rfl, hb1l0, hx, cx⟩ := (hV.from_ hbW).b.at_ hlt
              obtain ⟨b2, o2, y, rfl, hb2l0, hy, cy⟩ := (hV2.from_ hbW).b.at_ (show j < bs2.length by have := HLB.out; omega)
              have hb1l : b1 < wr.heap.size := by omega
              have hb2l : b2 < wr.heap.size := by omega
              have hlt2 : j < bs2.length := by have := HLB.out; omega
              have HX := Lib.hid hx
              have HY := Lib.hid hy
              have HQ := Lib.hid hq
              have HV := Lib.hid hV
              have hj9 : (j : Int) < 9223372036854775807 := by omega
              clear hx hy hq ih hV hV2 HV
              go_wp2_with fail
              have mixed : Tryz.prog.follows .mixedOrders = true := by kernel_rfl
              refine region_quiet (C := fun W => Below wr.heap.size wr W) mixed (by kernel_rfl) (Below.drew (Below.refl _ _)) ?_
              refine quiet_val (.pointer (some ⟨w.heap.size, 4, none⟩)) (by rfl) (fun W hC => by go_simp) ?_
              simp only [Act.put, List.setIfInBounds_toArray, List.set_cons_zero, List.set_cons_succ]
              refine quiet_val (.slice (some ⟨b1, o1, none⟩) bs.length cb) (by rfl) (fun W hC => by have z := hbA.from_ hC hbs; have c4 := z.c4; simp only [Nat.zero_add] at c4; go_simp) ?_
              simp only [Act.put, List.setIfInBounds_toArray, List.set_cons_zero, List.set_cons_succ]
              refine quiet_val (.int .i64 j) (by rfl) (fun W hC => by go_simp) ?_
              simp only [Act.put, List.setIfInBounds_toArray, List.set_cons_zero, List.set_cons_succ]
              refine quiet_val (.pointer (some ⟨b1, o1 + j, none⟩)) (by rfl) (fun W hC => by go_simp) ?_
              simp only [Act.put, List.setIfInBounds_toArray, List.set_cons_zero, List.set_cons_succ]
              refine quiet_val (.bool x) (by rfl) (fun W hC => by have e := (hC.cell (p := ⟨b1, o1 + j, none⟩) hb1l).trans cx; go_simp) ?_
              simp only [Act.put, List.setIfInBounds_toArray, List.set_cons_zero, List.set_cons_succ]
              refine quiet_val (.pointer (some ⟨w.heap.size + 1, 4, none⟩)) (by rfl) (fun W hC => by go_simp) ?_
              simp only [Act.put, List.setIfInBounds_toArray, List.set_cons_zero, List.set_cons_succ]
              refine quiet_val (.slice (some ⟨b2, o2, none⟩) bs2.length cb2) (by rfl) (fun W hC => by have z := hbB.from_ hC hbs2; have c4 := z.c4; simp only [Nat.zero_add] at c4; go_simp) ?_
              simp only [Act.put, List.setIfInBounds_toArray, List.set_cons_zero, List.set_cons_succ]
              refine quiet_val (.int .i64 j) (by rfl) (fun W hC => by go_simp) ?_
              simp only [Act.put, List.setIfInBounds_toArray, List.set_cons_zero, List.set_cons_succ]
              refine quiet_val (.pointer (some ⟨b2, o2 + j, none⟩)) (by rfl) (fun W hC => by go_simp) ?_
              simp only [Act.put, List.setIfInBounds_toArray, List.set_cons_zero, List.set_cons_succ]
              refine quiet_val (.bool y) (by rfl) (fun W hC => by have e := (hC.cell (p := ⟨b2, o2 + j, none⟩) hb2l).trans cy; go_simp) ?_
              simp only [Act.put, List.setIfInBounds_toArray, List.set_cons_zero, List.set_cons_succ]
              refine quiet_val (.bool (x != y)) (by rfl) (fun W hC => by go_simp <;> (cases x <;> cases y <;> rfl)) ?_
              simp only [Act.put, List.setIfInBounds_toArray, List.set_cons_zero, List.set_cons_succ]
              refine wpQuiet_nil ?_
              intro w2 hb2
              clear hbA hbB cx cy a4
              by_cases hxy : x = y
              · subst hxy
                simp only [bne_self_eq_false]
                go_wp2_with fail
                go_roundw
                case rel => exact ⟨j + 1, by omega, by simp, by rw [M.row_next HX.out, M.row_next HY.out, HQ.out], hW.trans (hb2.mono hsz)⟩
                case measure => simp [intOf]; omega
              · have hb : (x != y) = true := by simpa using hxy
                have HF := Lib.hid (M.bits_first HX.out HY.out hxy)
                rw [hb]
                clear hj9 hxy hb
                go_wp2_with fail
                go_ret
                rw [HF.out, Bool.false_and]
                exact ⟨rfl, hbW.trans (hb2.mono hbW.size)⟩
            · obtain rfl : j = bs.length := by omega
              have hbb : bs = bs2 := by
                rw [List.take_length, HLB.out, List.take_length] at hq
                exact hq
              have HE : Hid ((bs == bs2 && M.sameVs us us2) = M.sameVs us us2) := by show _ = _; rw [hbb]; simp
              clear hq hbb
              go_wp2_with fail
              obtain ⟨wm, hwm⟩ : ∃ wm, wm = wr := ⟨_, rfl⟩
              subst hwm
              go_loopw [6] (fun i ws => ∃ i' : Nat, i' ≤ us.length ∧ i = .int .i64 i' ∧ M.sameVs (us.take i') (us2.take i') = true ∧ Below wm.heap.size wm ws) (fun i _ => us.length - (intOf i).toNat)
              case atStart => exact ⟨0, by omega, rfl, by simp [M.sameVs], Below.refl _ _⟩
              case round =>
                obtain ⟨i, hi, rfl, hq, hW2⟩ := hrel
                have hbW2 : Below w.heap.size w wr := hbW.trans (hW2.mono (by omega))
                have hsz2 := hW2.size
                replace hbA := hbA.from_ hW2 (by omega)
                replace hbB := hbB.from_ hW2 (by omega)
                have a5 := hbA.c5
                simp only [Nat.zero_add] at a5
                replace hbs : w.heap.size < wr.heap.size := by omega
                replace hbs2 : w.heap.size + 1 < wr.heap.size := by omega
                clear a4
                by_cases hlt3 : i < us.length
                · obtain ⟨b1, o1, M1, bs1, us1, p1, ab1, cb1, au1, cu1, rfl, hb1l0, hx, hE1, hV1'⟩ := (hV.from_ hbW2).v.at_ hlt3
                  have hlt4 : i < us2.length := by have := HLU.out; omega
                  obtain ⟨b2, o2, M2, bs2', us2', p2, ab2, cb2', au2, cu2, rfl, hb2l0, hy, hE2, hV2'⟩ := (hV2.from_ hbW2).v.at_ hlt4
                  have hb1l : b1 < wr.heap.size := by omega
                  have hb2l : b2 < wr.heap.size := by omega
                  have hsx := size_va hx
                  rw [M.Va.mk.sizeOf_spec] at hsx
                  have IH := Lib.hid (fun W (h : Below wr.heap.size wr W) => ih M1 bs1 us1 p1 ab1 cb1 au1 cu1 M2 bs2' us2' p2 ab2 cb2' au2 cu2 W (by omega) ((hV1'.from_ (h.mono hbW2.size)).mono (Nat.le_trans hbW2.size h.size)) ((hV2'.from_ (h.mono hbW2.size)).mono (Nat.le_trans hbW2.size h.size)))
                  have HN := Lib.hid (M.sameVs_next hx hy)
                  have HF := Lib.hid (fun h => M.sameVs_first (xs := us) (ys := us2) hx hy h)
                  rw [hq, Bool.true_and] at HN
                  generalize M.sameV (.mk M1 bs1 us1 p1) (.mk M2 bs2' us2' p2) = r at *
                  have hj9 : (i : Int) < 9223372036854775807 := by omega
                  clear ih hq hsx hx hy hV1' hV2' hV hV2
                  go_wp2_with fail
                  have mixed : Tryz.prog.follows .mixedOrders = true := by kernel_rfl
                  refine region_quiet (C := fun W => Below wr.heap.size wr W) mixed (by kernel_rfl) (Below.drew (Below.refl _ _)) ?_
                  refine quiet_val (.pointer (some ⟨w.heap.size, 5, none⟩)) (by rfl) (fun W hC => by go_simp) ?_
                  simp only [Act.put, List.setIfInBounds_toArray, List.set_cons_zero, List.set_cons_succ]
                  refine quiet_val (.slice (some ⟨b1, o1, none⟩) us.length cu) (by rfl) (fun W hC => by have z := hbA.from_ hC hbs; have c5 := z.c5; simp only [Nat.zero_add] at c5; go_simp) ?_
                  simp only [Act.put, List.setIfInBounds_toArray, List.set_cons_zero, List.set_cons_succ]
                  refine quiet_val (.int .i64 i) (by rfl) (fun W hC => by go_simp) ?_
                  simp only [Act.put, List.setIfInBounds_toArray, List.set_cons_zero, List.set_cons_succ]
                  refine quiet_val (.pointer (some ⟨b1, o1 + i * 7, none⟩)) (by rfl) (fun W hC => by go_simp) ?_
                  simp only [Act.put, List.setIfInBounds_toArray, List.set_cons_zero, List.set_cons_succ]
                  refine quiet_val (vv M1 (.slice ab1 bs1.length cb1) (.slice au1 us1.length cu1) p1) (by rfl) (fun W hC => by have z := hE1.from_ hC hb1l; have c0 := z.c0; have c1 := z.c1; have c2 := z.c2; have c3 := z.c3; have c4 := z.c4; have c5 := z.c5; have c6 := z.c6; go_simp) ?_
                  simp only [Act.put, List.setIfInBounds_toArray, List.set_cons_zero, List.set_cons_succ]
                  refine quiet_val (.pointer (some ⟨w.heap.size + 1, 5, none⟩)) (by rfl) (fun W hC => by go_simp) ?_
                  simp only [Act.put, List.setIfInBounds_toArray, List.set_cons_zero, List.set_cons_succ]
                  refine quiet_val (.slice (some ⟨b2, o2, none⟩) us2.length cu2x) (by rfl) (fun W hC => by have z := hbB.from_ hC hbs2; have c5 := z.c5; simp only [Nat.zero_add] at c5; go_simp) ?_
                  simp only [Act.put, List.setIfInBounds_toArray, List.set_cons_zero, List.set_cons_succ]
                  refine quiet_val (.int .i64 i) (by rfl) (fun W hC => by go_simp) ?_
                  simp only [Act.put, List.setIfInBounds_toArray, List.set_cons_zero, List.set_cons_succ]
                  refine quiet_val (.pointer (some ⟨b2, o2 + i * 7, none⟩)) (by rfl) (fun W hC => by go_simp) ?_
                  simp only [Act.put, List.setIfInBounds_toArray, List.set_cons_zero, List.set_cons_succ]
                  refine quiet_val (vv M2 (.slice ab2 bs2'.length cb2') (.slice au2 us2'.length cu2) p2) (by rfl) (fun W hC => by have z := hE2.from_ hC hb2l; have c0 := z.c0; have c1 := z.c1; have c2 := z.c2; have c3 := z.c3; have c4 := z.c4; have c5 := z.c5; have c6 := z.c6; go_simp) ?_
                  simp only [Act.put, List.setIfInBounds_toArray, List.set_cons_zero, List.set_cons_succ]
                  refine quiet_call (.bool r) 14 #[vv M1 (.slice ab1 bs1.length cb1) (.slice au1 us1.length cu1) p1, vv M2 (.slice ab2 bs2'.length cb2') (.slice au2 us2'.length cu2) p2] (by rfl) (fun W hC => by go_simp) (fun W hC => (IH.out W hC).mono fun _ _ h => ⟨h.1, hC.trans (h.2.mono hC.size)⟩) ?_
                  simp only [Act.put, List.setIfInBounds_toArray, List.set_cons_zero, List.set_cons_succ]
                  refine quiet_val (.bool (!r)) (by rfl) (fun W hC => by go_simp) ?_
                  simp only [Act.put, List.setIfInBounds_toArray, List.set_cons_zero, List.set_cons_succ]
                  refine wpQuiet_nil ?_
                  intro w2 hb2
                  clear hbA hbB hE1 hE2 a5 IH
                  cases r with
                  | true =>
                    simp only [Bool.not_true]
                    clear hj9
                    have hj9 : (i : Int) + 1 ≤ 9223372036854775807 := by omega
                    go_wp2_with fail
                    go_roundw
                    case rel => exact ⟨i + 1, by omega, by simp, HN.out, hW2.trans (hb2.mono hsz2)⟩
                    case measure => simp [intOf]; omega
                  | false =>
                    have HG := Lib.hid (HF.out rfl)
                    clear hj9 HN HF hi hlt3 hlt4 hl1 hl2 hb1l0 hb2l0 hb1l hb2l hbs hbs2
                    go_wp2_with fail
                    go_ret
                    rw [HE.out, HG.out]
                    exact ⟨rfl, hbW2.trans (hb2.mono hbW2.size)⟩
                · obtain rfl : i = us.length := by omega
                  rw [List.take_length, HLU.out, List.take_length] at hq
                  have HQ := Lib.hid hq
                  clear hq
                  go_wp2_with fail
                  go_ret
                  rw [HE.out, HQ.out]
                  exact ⟨rfl, hbW2⟩
          · have hlu' : ((us.length : Int) != (us2.length : Int)) = true := by simp; omega
            subst hN hp
            have hlb' : ((bs.length : Int) != (bs2.length : Int)) = false := by rw [bne_eq_false_iff_eq]; omega
            have he2 : ∀ W, (Op.equalIn 10000 29 (wn N) (wn N)).run Tryz.prog W = .ok true W := fun W => by rw [eqN hV.hN hV.hN]; simp
            have E : Hid ((N == N && p == p && bs == bs2 && (us.length == us2.length && M.sameVs us us2)) = false) := by show _ = _; simp [hlu]
            rw [E.out]
            clear he hlu hlb ih
            go_enter Tryz.func14, Tryz.ntmps14
            go_wp2_with fail
            go_ret
            exact ⟨rfl, hbb _ _⟩
        · have hlb' : ((bs.length : Int) != (bs2.length : Int)) = true := by simp; omega
          subst hN hp
          have he2 : ∀ W, (Op.equalIn 10000 29 (wn N) (wn N)).run Tryz.prog W = .ok true W := fun W => by rw [eqN hV.hN hV.hN]; simp
          have E : Hid ((N == N && p == p && bs == bs2 && (us.length == us2.length && M.sameVs us us2)) = false) := by
            show _ = _
            have : (bs == bs2) = false := by rw [beq_eq_false_iff_ne]; intro h; exact hlb (by rw [h])
            simp [this]
          rw [E.out]
          clear he hlb ih
          go_enter Tryz.func14, Tryz.ntmps14
          go_wp2_with fail
          go_ret
          exact ⟨rfl, hbb _ _⟩
      · subst hN
        have he2 : ∀ W, (Op.equalIn 10000 29 (wn N) (wn N)).run Tryz.prog W = .ok true W := fun W => by rw [eqN hV.hN hV.hN]; simp
        have hp' : (p != p2) = true := by simpa using hp
        have E : Hid ((N == N && p == p2 && bs == bs2 && (us.length == us2.length && M.sameVs us us2)) = false) := by show _ = _; simp [hp]
        rw [E.out]
        clear he ih hp
        go_enter Tryz.func14, Tryz.ntmps14
        go_wp2_with fail
        go_ret
        exact ⟨rfl, hbb _ _⟩
    · have he2 : ∀ W, (Op.equalIn 10000 29 (wn N) (wn N2)).run Tryz.prog W = .ok false W := fun W => by rw [he]; simp [hN]
      have E : Hid ((N == N2 && p == p2 && bs == bs2 && (us.length == us2.length && M.sameVs us us2)) = false) := by show _ = _; simp [hN]
      rw [E.out]
      clear he ih hN
      go_enter Tryz.func14, Tryz.ntmps14
      go_wp2_with fail
      go_ret
      exact ⟨rfl, hbb _ _⟩
end Go.Proofs.YtgloapcfmlijlaaGreatDoor
namespace Go.Proofs.YtgloapcfmlijlaaGreatDoor
open Go Go.RowKit

def SSame8Ok : Prop := ∀ (N : Nat) (bs : List Bool) (us : List M.Va) (p : Int) (ab : Option Addr) (cb : Nat) (au : Option Addr) (cu : Nat) (N2 : Nat) (bs2 : List Bool) (us2 : List M.Va) (p2 : Int) (ab2 : Option Addr) (cb2 : Nat) (au2 : Option Addr) (cu2 : Nat) (W : World), Vl W W.heap.size N bs us ab cb au cu → Vl W W.heap.size N2 bs2 us2 ab2 cb2 au2 cu2 → M.cntV (.mk N bs us p) ≤ 6000 → M.cntV (.mk N2 bs2 us2 p2) ≤ 6000 →
  Calls Tryz.prog 26 #[vv N (.slice ab bs.length cb) (.slice au us.length cu) p, vv N2 (.slice ab2 bs2.length cb2) (.slice au2 us2.length cu2) p2] W fun e w' => e = .returned (.bool (M.sameV (.mk N bs us p) (.mk N2 bs2 us2 p2))) ∧ Below W.heap.size W w'
end Go.Proofs.YtgloapcfmlijlaaGreatDoor
namespace Go.Proofs.YtgloapcfmlijlaaGreatDoor
open Go Go.RowKit

def RGetOk : Prop := ∀ (k n : Int) (ts : List M.Ty) (a : Option Addr) (cap : Nat) (s : List UInt8) (W : World), LayT W W.heap.size ts (.slice a ts.length cap) → M.cntT (.mk k n ts) ≤ 100 → (s.length ≤ 800 ∨ 65536 < s.length) →
  Calls Tryz.prog 13 #[tv k n (.slice a ts.length cap), .string ⟨s.toArray⟩] W fun e w' => GotP e w' (M.getT (.mk k n ts) s) ∧ Below W.heap.size W w'

end Go.Proofs.YtgloapcfmlijlaaGreatDoor
namespace Go.Proofs.YtgloapcfmlijlaaGreatDoor
open Go Go.RowKit

theorem few_none (k n : Int) (ts : List M.Ty) (at_ : Option Addr) (ct : Nat) (w : World) (hT : LayT w w.heap.size ts (.slice at_ ts.length ct)) :
    Calls Tryz.prog 11 #[tv k n (.slice at_ ts.length ct), .agg #[.int .u64 0, .int .u64 0, .int .u64 0, .int .u64 0, .slice none 0 0, .slice none 0 0, .int .i64 0]] w fun e w' => FewP e (.mk k n ts) M.noV ∧ Below w.heap.size w w' := by
  have := few_any k n ts at_ ct 0 [] [] 0 none 0 none 0 w hT ⟨by unfold M.In; omega, .nil_ (by decide), .nil_ (by decide)⟩
  rw [show vv 0 (.slice none ([] : List Bool).length 0) (.slice none ([] : List M.Va).length 0) 0 = .agg #[.int .u64 0, .int .u64 0, .int .u64 0, .int .u64 0, .slice none 0 0, .slice none 0 0, .int .i64 0] by
    show Value.agg _ = _
    rw [show M.pt 0 0 = 0 by decide +kernel, show M.pt 1 0 = 0 by decide +kernel, show M.pt 2 0 = 0 by decide +kernel, show M.pt 3 0 = 0 by decide +kernel]; rfl] at this
  exact this
theorem M.va_inj {a b : Nat} {c d : List Bool} {e f : List M.Va} {g h : Int} (x : M.Va.mk a c e g = .mk b d f h) : a = b ∧ c = d ∧ e = f ∧ g = h := by cases x; exact ⟨rfl, rfl, rfl, rfl⟩
set_option maxRecDepth 100000 in
set_option maxHeartbeats 8000000 in
theorem zgets_law (HK : Hid ZWorks) (HZ : Hid Sszs) (HR : Hid RGetOk) (k n : Int) (ts : List M.Ty) (at_ : Option Addr) (ct : Nat) (s : List UInt8) (w : World)
    (hT : LayT w w.heap.size ts (.slice at_ ts.length ct)) (_hs : s.length ≤ maxLen) :
    Calls Tryz.prog 3 #[tv k n (.slice at_ ts.length ct), .string ⟨s.toArray⟩] w fun e w' => e = .returned (.bool true) ∧ Below w.heap.size w w' := by
  obtain ⟨w0, hw0⟩ : ∃ w0, w.alloc (.cells #[.int .i64 k, .int .i64 n, .slice at_ ts.length ct] 24) = w0 := ⟨_, rfl⟩
  have hb0 : Below w.heap.size w w0 := by rw [← hw0]; exact (Below.refl _ _).alloc (Nat.le_refl _) _
  have hz0 : w0.heap.size = w.heap.size + 1 := by rw [← hw0]; simp
  have hB0 : BoxT w0 w.heap.size k n (.slice at_ ts.length ct) := by rw [← hw0]; exact BoxT.new _ _ _ _ _
  have HW := Lib.hid hw0
  clear hw0
  go_enter Tryz.func3, Tryz.ntmps3
  go_wp2_with fail
  rw [HW.out]
  refine (HK.out w0).mono ?_
  rintro e w1 ⟨rfl, hb1⟩
  have hb01 : Below w0.heap.size w0 w1 := hb1
  have hbw1 := hb0.trans (hb01.mono hb0.size)
  have hB1 := hB0.from_ hb01 (by omega)
  have t0 := hB1.c0
  have t1 := hB1.c1
  have t2 := hB1.c2
  go_wp2_with fail
  refine (few_none k n ts at_ ct w1 ((hT.from_ hbw1).mono hbw1.size)).mono ?_
  rintro e w2 ⟨⟨q1, rfl, hq1⟩, hb2⟩
  have hb02 : Below w0.heap.size w0 w2 := hb01.trans (hb2.mono hb01.size)
  have hbw2 := hb0.trans (hb02.mono hb0.size)
  have HQ1 := Lib.hid hq1
  clear hq1 t0 t1 t2 hB1 hb1 hb2
  cases q1 with
  | false =>
    go_wp2_with fail
    go_ret
    exact ⟨rfl, hbw2⟩
  | true =>
    obtain ⟨g1, g2⟩ := HQ1.out rfl
    have hB2 := hB0.from_ hb02 (by omega)
    have t0 := hB2.c0
    have t1 := hB2.c1
    have t2 := hB2.c2
    by_cases hl : s.length ≤ 800 ∨ 65536 < s.length
    · have HP1 := Lib.hid (HZ.out.get k n ts at_ ct s w2 ((hT.from_ hbw2).mono hbw2.size) (by omega) (by omega))
      have HP2 := Lib.hid (fun W (h : Below w.heap.size w W) => HR.out k n ts at_ ct s W ((hT.from_ h).mono h.size) (by omega) hl)
      generalize M.getT (.mk k n ts) s = r at *
      obtain ⟨v, x⟩ := r
      rcases hl with hl | hl
      · have hl1 : (s.length : Int) ≤ 800 := by omega
        go_wp2_with fail
        refine HP1.out.mono ?_
        rintro e w3 ⟨⟨N1, bs1, us1, p1, ab1, cb1, au1, cu1, hg1, rfl, hv1⟩, hb3⟩
        simp only at hg1
        subst hg1
        have hb03 : Below w0.heap.size w0 w3 := hb02.trans (hb3.mono hb02.size)
        obtain ⟨w4, hw4⟩ : ∃ w4, w3.alloc (.cells #[.int .u64 (M.pt 0 N1), .int .u64 (M.pt 1 N1), .int .u64 (M.pt 2 N1), .int .u64 (M.pt 3 N1), .slice ab1 bs1.length cb1, .slice au1 us1.length cu1, .int .i64 p1] 33) = w4 := ⟨_, rfl⟩
        have hz4 : w4.heap.size = w3.heap.size + 1 := by rw [← hw4]; simp
        have hb4 : Below w3.heap.size w3 w4 := by rw [← hw4]; exact (Below.refl _ _).alloc (Nat.le_refl _) _
        have hb04 : Below w0.heap.size w0 w4 := hb03.trans (hb4.mono hb03.size)
        have hbw4 := hb0.trans (hb04.mono hb0.size)
        have hA4 : Cells7 w4 w3.heap.size 0 N1 (.slice ab1 bs1.length cb1) (.slice au1 us1.length cu1) p1 := by rw [← hw4]; exact Cells7.new _ _ _ _ _ _
        have HW4 := Lib.hid hw4
        clear hw4 t0 t1 t2 HP1
        have hB4 := hB0.from_ hb04 (by omega)
        have t0 := hB4.c0
        have t1 := hB4.c1
        have t2 := hB4.c2
        rw [← HW4.out] at t0 t1 t2
        go_wp2_with fail
        rw [HW4.out]
        refine (HP2.out _ hbw4).mono ?_
        rintro e w5 ⟨⟨N2, bs2, us2, p2, ab2, cb2, au2, cu2, hg2, rfl, hv2⟩, hb5⟩
        simp only at hg2
        obtain ⟨e1, e2, e3, e4⟩ := M.va_inj hg2
        subst e1 e2 e3 e4
        obtain ⟨w6, hw6⟩ : ∃ w6, w5.alloc (.cells #[.int .u64 (M.pt 0 N1), .int .u64 (M.pt 1 N1), .int .u64 (M.pt 2 N1), .int .u64 (M.pt 3 N1), .slice ab2 bs1.length cb2, .slice au2 us1.length cu2, .int .i64 p1] 33) = w6 := ⟨_, rfl⟩
        have hb6 : Below w5.heap.size w5 w6 := by rw [← hw6]; exact (Below.refl _ _).alloc (Nat.le_refl _) _
        have hA6 : Cells7 w6 w5.heap.size 0 N1 (.slice ab2 bs1.length cb2) (.slice au2 us1.length cu2) p1 := by rw [← hw6]; exact Cells7.new _ _ _ _ _ _
        have hb46 : Below w4.heap.size w4 w6 := Below.trans hb5 (hb6.mono hb5.size)
        have hb36 : Below w3.heap.size w3 w6 := hb4.trans (hb46.mono hb4.size)
        have hbw6 := hbw4.trans (hb46.mono hbw4.size)
        have HW6 := Lib.hid hw6
        clear hw6 t0 t1 t2
        have hA5 := hA4.from_ hb46 (by omega)
        have a0 := hA5.c0
        have a1 := hA5.c1
        have a2 := hA5.c2
        have a3 := hA5.c3
        have a4 := hA5.c4
        have a5 := hA5.c5
        have a6 := hA5.c6
        have c0 := hA6.c0
        have c1 := hA6.c1
        have c2 := hA6.c2
        have c3 := hA6.c3
        have c4 := hA6.c4
        have c5 := hA6.c5
        have c6 := hA6.c6
        simp only [Nat.zero_add] at a1 a2 a3 a4 a5 a6 c1 c2 c3 c4 c5 c6
        rw [← HW6.out] at a0 a1 a2 a3 a4 a5 a6 c0 c1 c2 c3 c4 c5 c6
        go_wp2_with fail
        rw [HW6.out]
        refine (tsame_n _ N1 bs1 us1 p1 ab1 cb1 au1 cu1 N1 bs1 us1 p1 ab2 cb2 au2 cu2 w6 (Nat.le_refl _) ((hv1.from_ hb36).mono hb36.size) ((hv2.from_ hb6).mono hb6.size)).mono ?_
        rintro e w7 ⟨rfl, hb7⟩
        rw [(M.same_eq _ _).2 rfl]
        go_wp2_with fail
        go_ret
        exact ⟨rfl, hbw6.trans (hb7.mono hbw6.size)⟩
      · have hl1 : (800 : Int) < (s.length : Nat) := by omega
        have hl2 : ¬ (s.length : Int) ≤ 65536 := by omega
        go_wp2_with fail
        refine HP1.out.mono ?_
        rintro e w3 ⟨⟨N1, bs1, us1, p1, ab1, cb1, au1, cu1, hg1, rfl, hv1⟩, hb3⟩
        simp only at hg1
        subst hg1
        have hb03 : Below w0.heap.size w0 w3 := hb02.trans (hb3.mono hb02.size)
        obtain ⟨w4, hw4⟩ : ∃ w4, w3.alloc (.cells #[.int .u64 (M.pt 0 N1), .int .u64 (M.pt 1 N1), .int .u64 (M.pt 2 N1), .int .u64 (M.pt 3 N1), .slice ab1 bs1.length cb1, .slice au1 us1.length cu1, .int .i64 p1] 33) = w4 := ⟨_, rfl⟩
        have hz4 : w4.heap.size = w3.heap.size + 1 := by rw [← hw4]; simp
        have hb4 : Below w3.heap.size w3 w4 := by rw [← hw4]; exact (Below.refl _ _).alloc (Nat.le_refl _) _
        have hb04 : Below w0.heap.size w0 w4 := hb03.trans (hb4.mono hb03.size)
        have hbw4 := hb0.trans (hb04.mono hb0.size)
        have hA4 : Cells7 w4 w3.heap.size 0 N1 (.slice ab1 bs1.length cb1) (.slice au1 us1.length cu1) p1 := by rw [← hw4]; exact Cells7.new _ _ _ _ _ _
        have HW4 := Lib.hid hw4
        clear hw4 t0 t1 t2 HP1
        have hB4 := hB0.from_ hb04 (by omega)
        have t0 := hB4.c0
        have t1 := hB4.c1
        have t2 := hB4.c2
        rw [← HW4.out] at t0 t1 t2
        go_wp2_with fail
        rw [HW4.out]
        refine (HP2.out _ hbw4).mono ?_
        rintro e w5 ⟨⟨N2, bs2, us2, p2, ab2, cb2, au2, cu2, hg2, rfl, hv2⟩, hb5⟩
        simp only at hg2
        obtain ⟨e1, e2, e3, e4⟩ := M.va_inj hg2
        subst e1 e2 e3 e4
        obtain ⟨w6, hw6⟩ : ∃ w6, w5.alloc (.cells #[.int .u64 (M.pt 0 N1), .int .u64 (M.pt 1 N1), .int .u64 (M.pt 2 N1), .int .u64 (M.pt 3 N1), .slice ab2 bs1.length cb2, .slice au2 us1.length cu2, .int .i64 p1] 33) = w6 := ⟨_, rfl⟩
        have hb6 : Below w5.heap.size w5 w6 := by rw [← hw6]; exact (Below.refl _ _).alloc (Nat.le_refl _) _
        have hA6 : Cells7 w6 w5.heap.size 0 N1 (.slice ab2 bs1.length cb2) (.slice au2 us1.length cu2) p1 := by rw [← hw6]; exact Cells7.new _ _ _ _ _ _
        have hb46 : Below w4.heap.size w4 w6 := Below.trans hb5 (hb6.mono hb5.size)
        have hb36 : Below w3.heap.size w3 w6 := hb4.trans (hb46.mono hb4.size)
        have hbw6 := hbw4.trans (hb46.mono hbw4.size)
        have HW6 := Lib.hid hw6
        clear hw6 t0 t1 t2
        have hA5 := hA4.from_ hb46 (by omega)
        have a0 := hA5.c0
        have a1 := hA5.c1
        have a2 := hA5.c2
        have a3 := hA5.c3
        have a4 := hA5.c4
        have a5 := hA5.c5
        have a6 := hA5.c6
        have c0 := hA6.c0
        have c1 := hA6.c1
        have c2 := hA6.c2
        have c3 := hA6.c3
        have c4 := hA6.c4
        have c5 := hA6.c5
        have c6 := hA6.c6
        simp only [Nat.zero_add] at a1 a2 a3 a4 a5 a6 c1 c2 c3 c4 c5 c6
        rw [← HW6.out] at a0 a1 a2 a3 a4 a5 a6 c0 c1 c2 c3 c4 c5 c6
        go_wp2_with fail
        rw [HW6.out]
        refine (tsame_n _ N1 bs1 us1 p1 ab1 cb1 au1 cu1 N1 bs1 us1 p1 ab2 cb2 au2 cu2 w6 (Nat.le_refl _) ((hv1.from_ hb36).mono hb36.size) ((hv2.from_ hb6).mono hb6.size)).mono ?_
        rintro e w7 ⟨rfl, hb7⟩
        rw [(M.same_eq _ _).2 rfl]
        go_wp2_with fail
        go_ret
        exact ⟨rfl, hbw6.trans (hb7.mono hbw6.size)⟩
    · have hl1 : (800 : Int) < (s.length : Nat) := by omega
      have hl2 : (s.length : Int) ≤ 65536 := by omega
      go_wp2_with fail
      go_ret
      exact ⟨rfl, hbw2⟩
end Go.Proofs.YtgloapcfmlijlaaGreatDoor
namespace Go.Proofs.YtgloapcfmlijlaaGreatDoor
open Go Go.RowKit

theorem type_cells : Tryz.prog.cellsOf 24 = 3 := by kernel_rfl
theorem int_cells : Tryz.prog.cellsOf 3 = 1 := by kernel_rfl
theorem types_cells : Tryz.prog.cellsOf 22 = 1 := by kernel_rfl
theorem at_add (b o i : Nat) : (⟨b, o, none⟩ : Addr).add i = ⟨b, o + i, none⟩ := by
  unfold Addr.add
  split
  · rename_i h; rw [h, Nat.add_zero]
  · rfl

section
variable {H : Type} {enc : TypeId × Value → H} {W : World} {sp : Nat → Bool} {hd : Bool}

set_option maxRecDepth 100000 in
/-- What a slice of types leads to. -/
theorem open_types : ∀ (fuel : Nat) (u : Value) (x : DataW H × List MemPlace), DataW.trod enc Tryz.prog W 0 sp hd fuel 22 [u] = some x →
    ∃ ts a cap, u = .slice a ts.length cap ∧ LayT W W.heap.size ts (.slice a ts.length cap) := by
  intro fuel
  induction fuel using Nat.strongRecOn with
  | _ fuel ih =>
    intro u x h
    rcases DataW.trod_slice Tryz.underlying22 h with ⟨hu, _⟩ | ⟨a, len, cap, elems, rest, n, hf, hu, hx, hb, hl, hm, hel, hei, _, _⟩
    · obtain rfl : u = .slice none 0 0 := by simpa using hu
      exact ⟨[], none, 0, rfl, .nil_ (by decide)⟩
    · obtain rfl : u = .slice (some a) len cap := by simpa using hu
      by_cases h0 : len = 0
      · subst h0
        exact ⟨[], some a, cap, rfl, .nil_ hm⟩
      · have each : ∀ i, i < len → ∃ q : (Int × Int) × (List M.Ty × Value), W.cell? (a.add (i * 3)) = some (.int .i64 q.1.1) ∧ W.cell? (a.add (i * 3 + 1)) = some (.int .i64 q.1.2) ∧ W.cell? (a.add (i * 3 + 2)) = some q.2.2 ∧ LayT W W.heap.size q.2.1 q.2.2 := by
          intro i hi
          have he := hei i hi
          rw [List.getElem?_eq_getElem (by omega)] at he
          obtain ⟨cs, h1, h2⟩ := Option.bind_eq_some_iff.1 he
          rw [type_cells] at h1
          obtain ⟨_, hlen, hcell⟩ := World.cells?_some h1
          obtain ⟨ps, m, hfm, hxy, _, hpl, hfi⟩ := DataW.trod_struct Tryz.underlying24 h2
          match cs, hlen, ps, hpl with
          | [v0, v1, v2], _, [y0, y1, y2], _ =>
            have g0 := hfi 0 _ rfl
            have g1 := hfi 1 _ rfl
            have g2 := hfi 2 _ rfl
            simp [int_cells, types_cells] at g0 g1 g2
            obtain ⟨k, e0, _, _⟩ := DataW.trod_int Tryz.underlying3 g0
            obtain ⟨s, e1, _, _⟩ := DataW.trod_int Tryz.underlying3 g1
            obtain ⟨xs, _, _, rfl, hLx⟩ := ih m (by omega) v2 y2 g2
            refine ⟨((k, s), (xs, _)), ?_, ?_, ?_, hLx⟩
            · have := hcell 0 (by omega)
              rw [Go.Deep.add_add, Nat.add_zero] at this
              simp at e0
              simpa [e0] using this
            · have := hcell 1 (by omega)
              simp at e1
              rw [Go.Deep.add_add] at this
              simpa [e1] using this
            · have := hcell 2 (by omega)
              rw [Go.Deep.add_add] at this
              simpa using this
        obtain ⟨q, hq⟩ := Go.Deep.choose_lt each
        obtain ⟨b, o, spot⟩ := a
        have hspot : spot = none := by
          have := (hq 0 (by omega)).1
          simpa [Addr.add] using World.cell?_spot this
        subst hspot
        have hbl : b < W.heap.size := World.block_lt_of_cell? W _ ((hq 0 (by omega)).1)
        have hlen : ((List.range len).map fun i => M.Ty.mk (q i).1.1 (q i).1.2 (q i).2.1).length = len := by simp
        refine ⟨(List.range len).map fun i => .mk (q i).1.1 (q i).1.2 (q i).2.1, some ⟨b, o, none⟩, cap, by rw [hlen], ?_⟩
        have key : ∀ (i : Nat) (k m : Int) (us : List M.Ty), ((List.range len).map fun i => M.Ty.mk (q i).1.1 (q i).1.2 (q i).2.1)[i]? = some (M.Ty.mk k m us) → i < len ∧ (q i).1.1 = k ∧ (q i).1.2 = m ∧ (q i).2.1 = us := by
          intro i k m us h
          have hi : i < len := by
            have := (List.getElem?_eq_some_iff.1 h).1
            simpa using this
          simp [hi] at h
          exact ⟨hi, h⟩
        exact LayT.row (fun i => (q i).2.2) hbl (by rw [hlen]; exact hl) hm
          (fun i k m us h => by
            obtain ⟨hi, rfl, rfl, rfl⟩ := key i k m us h
            have := (hq i hi).1
            rwa [at_add] at this)
          (fun i k m us h => by
            obtain ⟨hi, rfl, rfl, rfl⟩ := key i k m us h
            have := (hq i hi).2.1
            rwa [at_add] at this)
          (fun i k m us h => by
            obtain ⟨hi, rfl, rfl, rfl⟩ := key i k m us h
            have := (hq i hi).2.2.1
            rwa [at_add] at this)
          (fun i k m us h => by
            obtain ⟨hi, rfl, rfl, rfl⟩ := key i k m us h
            exact (hq i hi).2.2.2)

set_option maxRecDepth 100000 in
/-- A type that comes in. -/
theorem open_type {r : Reach} {b0 : Nat} {v : Value} {d : DataW H} {p : List MemPlace} (hv : Value.okWide Tryz.prog W r b0 24 v) (h : DataW.Trod enc Tryz.prog W 0 sp hd 24 v d p) :
    ∃ k n ts a cap, v = tv k n (.slice a ts.length cap) ∧ LayT W W.heap.size ts (.slice a ts.length cap) := by
  obtain ⟨v0, v1, v2, y0, y1, y2, m, rfl, rfl, rfl, g0, g1, g2⟩ := Go.Joins.open_agg3 Tryz.underlying24 (by kernel_rfl) type_cells hv h
  obtain ⟨k, e0, _, _⟩ := DataW.trod_int Tryz.underlying3 g0
  obtain ⟨n, e1, _, _⟩ := DataW.trod_int Tryz.underlying3 g1
  obtain ⟨ts, a, cap, rfl, hL⟩ := open_types m v2 y2 g2
  simp at e0 e1
  exact ⟨k, n, ts, a, cap, by rw [e0, e1], hL⟩
end
end Go.Proofs.YtgloapcfmlijlaaGreatDoor
namespace Go.Proofs.YtgloapcfmlijlaaGreatDoor
open Go Go.RowKit Go.ChangeShapes Go.WideShapes Go.ChangeAt

end Go.Proofs.YtgloapcfmlijlaaGreatDoor
namespace Go.Proofs.YtgloapcfmlijlaaGreatDoor
open Go Go.RowKit

section
variable {H : Type} {enc : TypeId × Value → H} {W : World} {sp : Nat → Bool} {hd : Bool}

end
end Go.Proofs.YtgloapcfmlijlaaGreatDoor
namespace Go.Proofs.YtgloapcfmlijlaaGreatDoor
open Go Go.RowKit

def SCheckOk : Prop := ∀ (k n : Int) (ts : List M.Ty) (a : Option Addr) (cap : Nat) (W : World), LayT W W.heap.size ts (.slice a ts.length cap) → M.cntT (.mk k n ts) ≤ 1000 →
  Calls Tryz.prog 29 #[tv k n (.slice a ts.length cap)] W fun e w' => e = .returned (.int .i64 (M.chkT 0 (.mk k n ts) : Nat)) ∧ Below W.heap.size W w'
def SFixedOk : Prop := ∀ (k n : Int) (ts : List M.Ty) (a : Option Addr) (cap : Nat) (W : World), LayT W W.heap.size ts (.slice a ts.length cap) → M.cntT (.mk k n ts) ≤ 1000 →
  Calls Tryz.prog 71 #[tv k n (.slice a ts.length cap)] W fun e w' => e = .returned (.bool (M.fixedT (.mk k n ts))) ∧ Below W.heap.size W w'
def SSizeOk : Prop := ∀ (k n : Int) (ts : List M.Ty) (a : Option Addr) (cap : Nat) (W : World), LayT W W.heap.size ts (.slice a ts.length cap) → M.cntT (.mk k n ts) ≤ 1000 →
  Calls Tryz.prog 72 #[tv k n (.slice a ts.length cap)] W fun e w' => e = .returned (.int .i64 (M.sizeT (.mk k n ts) : Nat)) ∧ Below W.heap.size W w'
def SFitsOk : Prop := ∀ (k n : Int) (ts : List M.Ty) (a : Option Addr) (cap : Nat) (N : Nat) (bs : List Bool) (us : List M.Va) (p : Int) (ab : Option Addr) (cb : Nat) (au : Option Addr) (cu : Nat) (W : World), LayT W W.heap.size ts (.slice a ts.length cap) → Vl W W.heap.size N bs us ab cb au cu → M.cntT (.mk k n ts) ≤ 1000 → M.cntV (.mk N bs us p) ≤ 6000 →
  Calls Tryz.prog 24 #[tv k n (.slice a ts.length cap), vv N (.slice ab bs.length cb) (.slice au us.length cu) p] W fun e w' => e = .returned (.int .i64 (M.fitsV (.mk k n ts) (.mk N bs us p) : Nat)) ∧ Below W.heap.size W w'
def SSameOk : Prop := ∀ (N : Nat) (bs : List Bool) (us : List M.Va) (p : Int) (ab : Option Addr) (cb : Nat) (au : Option Addr) (cu : Nat) (N2 : Nat) (bs2 : List Bool) (us2 : List M.Va) (p2 : Int) (ab2 : Option Addr) (cb2 : Nat) (au2 : Option Addr) (cu2 : Nat) (W : World), Vl W W.heap.size N bs us ab cb au cu → Vl W W.heap.size N2 bs2 us2 ab2 cb2 au2 cu2 → M.cntV (.mk N bs us p) ≤ 6000 → M.cntV (.mk N2 bs2 us2 p2) ≤ 6000 →
  Calls Tryz.prog 26 #[vv N (.slice ab bs.length cb) (.slice au us.length cu) p, vv N2 (.slice ab2 bs2.length cb2) (.slice au2 us2.length cu2) p2] W fun e w' => e = .returned (.bool (M.sameV (.mk N bs us p) (.mk N2 bs2 us2 p2))) ∧ Below W.heap.size W w'
/-- The example's types and values. -/
def M.two : M.Ty := .mk 1 2 []
def M.one : M.Va := .mk 258 [] [] 0
theorem row_one {W : World} {b : Nat} {n : Nat} (h : W.heap[b]? = some (.cells #[.int .i64 1, .int .i64 2, .slice none 0 0] 24 (0, 0))) (hb : b < n) : LayT W n [M.two] (.slice (some ⟨b, 0, none⟩) 1 1) := by
  refine .row (ts := [M.two]) (fun _ => .slice none 0 0) hb (Nat.le_refl _) (by decide) ?_ ?_ ?_ ?_
  all_goals
    intro i k m us e
    match i, e with
    | 0, e => cases e; first | exact .nil_ (by decide) | simp [World.cell?, h]
end Go.Proofs.YtgloapcfmlijlaaGreatDoor
