/- The reference of layer 11: Same. The reference's Texts of layer 6: a list of bytes as an item. The reference's Texts of layer 6, walked. A region whose last operation writes what others read: a condition on the world that holds up to it. The reference of layer 11: written. The reference's Deep. The reference's Head. -/
import Derived.Test.YtcbggjdpjjdfmaaGreatDoorH15
import Derived.Test.YtcbggjdpjjdfmaaGreatDoorH10
import Derived.Test.YtcbggjdpjjdfmaaGreatDoorH06
import Derived.Test.YtcbggjdpjjdfmaaGreatDoorH07
import Derived.Test.YtcbggjdpjjdfmaaGreatDoorH08
import Derived.Test.YtcbggjdpjjdfmaaGreatDoorH01
import Derived.OrdersHeld
import Derived.Deep.RegionHeld
import Derived.Test.YtcbggjdpjjdfmaaGreatDoorProg
import Derived.Test.YtcbggjdpjjdfmaaGreatDoorH09
namespace Go.Proofs.YtcbggjdpjjdfmaaGreatDoor
open Go Go.RowKit Go.Lib
attribute [local go_sem] Oper.semAt_some

def FewR (ls : List M.Lg) : Prop := ls.length ≤ 1000 ∧ ∀ g ∈ ls, g.topics.length ≤ 1000
set_option maxRecDepth 100000 in
set_option maxHeartbeats 8000000 in
theorem rsameR_any (k : Int) (st : Bool) (ga : Nat) (ls : List M.Lg) (fu : Bool) (no ve : Nat) (k2 : Int) (st2 : Bool) (ga2 : Nat) (ms : List M.Lg) (fu2 : Bool) (no2 ve2 : Nat) (a : Option Addr) (ca : Nat) (b : Option Addr) (cb : Nat) (w : World)
    (hA : Ls w w.heap.size ls (.slice a ls.length ca)) (hB : Ls w w.heap.size ms (.slice b ms.length cb)) (hF : FewR ls) (hG : FewR ms) :
    Calls Tryz.prog 11 #[.agg #[.int .i64 k, .bool st, .int .u64 (ga : Nat), .slice a ls.length ca, .bool fu, .int .u64 (no : Nat), .int .u64 (ve : Nat)], .agg #[.int .i64 k2, .bool st2, .int .u64 (ga2 : Nat), .slice b ms.length cb, .bool fu2, .int .u64 (no2 : Nat), .int .u64 (ve2 : Nat)]] w fun e w' => e = .returned (.bool (M.sameR ⟨k, st, ga, ls, fu, no, ve⟩ ⟨k2, st2, ga2, ms, fu2, no2, ve2⟩)) ∧ Below w.heap.size w w' := by
  have mixed : Tryz.prog.follows .mixedOrders = true := by kernel_rfl
  obtain ⟨h, hh⟩ : ∃ h, w.heap.size = h := ⟨_, rfl⟩
  obtain ⟨w0, hw0⟩ : ∃ w0, (w.alloc (.cells #[.int .i64 k, .bool st, .int .u64 (ga : Nat), .slice a ls.length ca, .bool fu, .int .u64 (no : Nat), .int .u64 (ve : Nat)] 25)).alloc (.cells #[.int .i64 k2, .bool st2, .int .u64 (ga2 : Nat), .slice b ms.length cb, .bool fu2, .int .u64 (no2 : Nat), .int .u64 (ve2 : Nat)] 25) = w0 := ⟨_, rfl⟩
  have hb0 : Below w.heap.size w w0 := by rw [← hw0]; (repeat (first | exact Below.refl _ _ | refine Below.drew ?_ | refine Below.alloc ?_ (by first | omega | (simp; omega) | simp) _ | refine Below.setCell ?_ (by first | omega | (simp; omega) | simp) _))
  have hx0 : B7 w0 h (.int .i64 k) (.bool st) (.int .u64 (ga : Nat)) (.slice a ls.length ca) (.bool fu) (.int .u64 (no : Nat)) (.int .u64 (ve : Nat)) := by
    rw [← hw0, ← hh]
    exact (B7.new w _ _ _ _ _ _ _ _).from_ ((Below.refl _ _).alloc (Nat.le_refl _) _)
  have hy0 : B7 w0 (h + 1) (.int .i64 k2) (.bool st2) (.int .u64 (ga2 : Nat)) (.slice b ms.length cb) (.bool fu2) (.int .u64 (no2 : Nat)) (.int .u64 (ve2 : Nat)) := by
    rw [← hw0, ← hh]
    have := B7.new (w.alloc (.cells #[.int .i64 k, .bool st, .int .u64 (ga : Nat), .slice a ls.length ca, .bool fu, .int .u64 (no : Nat), .int .u64 (ve : Nat)] 25)) (.int .i64 k2) (.bool st2) (.int .u64 (ga2 : Nat)) (.slice b ms.length cb) (.bool fu2) (.int .u64 (no2 : Nat)) (.int .u64 (ve2 : Nat)) 25
    rwa [World.size_alloc] at this
  obtain ⟨R, hR⟩ : ∃ R, M.sameR ⟨k, st, ga, ls, fu, no, ve⟩ ⟨k2, st2, ga2, ms, fu2, no2, ve2⟩ = R := ⟨_, rfl⟩
  rw [hR]
  have HR := Lib.hid hR
  have HX0 := Lib.hid hx0
  have HY0 := Lib.hid hy0
  have HB0 := Lib.hid hb0
  have HW0 := Lib.hid hw0
  have HH := Lib.hid hh
  have HA := Lib.hid (hA.kept hb0)
  have HB := Lib.hid (hB.kept hb0)
  have HF := Lib.hid hF
  have HG := Lib.hid hG
  have hl9 := hF.1
  have hm9 := hG.1
  clear hR hx0 hy0 hb0 hw0 hA hB hF hG hh
  by_cases hk : k = k2
  case neg =>
    have hn : R = false := by
      rw [← HR.out]
      exact Bool.eq_false_iff.2 fun e => hk (by have := M.sameR_iff.1 e; injection this)
    subst hn
    have n1 : (k != k2) = true := by simp [hk]
    obtain ⟨c0, c1, c2, c3, c4, c5, c6⟩ := HX0.out
    obtain ⟨e0, e1, e2, e3, e4, e5, e6⟩ := HY0.out
    clear HR
    go_enter Tryz.func11, Tryz.ntmps11
    go_wp2_with (first | rw [HW0.out] | rw [HH.out])
    go_ret
    exact ⟨rfl, by first | exact HB0.out | exact (HH.out ▸ HB0.out)⟩

  subst hk
  by_cases hs : st = st2
  case neg =>
    have hn : R = false := by
      rw [← HR.out]
      exact Bool.eq_false_iff.2 fun e => hs (by have := M.sameR_iff.1 e; injection this)
    subst hn
    have n1 : (st != st2) = true := by simp [hs]
    obtain ⟨c0, c1, c2, c3, c4, c5, c6⟩ := HX0.out
    obtain ⟨e0, e1, e2, e3, e4, e5, e6⟩ := HY0.out
    clear HR
    go_enter Tryz.func11, Tryz.ntmps11
    go_wp2_with (first | rw [HW0.out] | rw [HH.out])
    go_ret
    exact ⟨rfl, by first | exact HB0.out | exact (HH.out ▸ HB0.out)⟩

  subst hs
  by_cases hg : ga = ga2
  case neg =>
    have hn : R = false := by
      rw [← HR.out]
      exact Bool.eq_false_iff.2 fun e => hg (by have := M.sameR_iff.1 e; injection this)
    subst hn
    have n1 : ((ga : Int) != (ga2 : Int)) = true := by simp; omega
    obtain ⟨c0, c1, c2, c3, c4, c5, c6⟩ := HX0.out
    obtain ⟨e0, e1, e2, e3, e4, e5, e6⟩ := HY0.out
    clear HR
    go_enter Tryz.func11, Tryz.ntmps11
    go_wp2_with (first | rw [HW0.out] | rw [HH.out])
    go_ret
    exact ⟨rfl, by first | exact HB0.out | exact (HH.out ▸ HB0.out)⟩

  subst hg
  by_cases hf : fu = fu2
  case neg =>
    have hn : R = false := by
      rw [← HR.out]
      exact Bool.eq_false_iff.2 fun e => hf (by have := M.sameR_iff.1 e; injection this)
    subst hn
    have n1 : (fu != fu2) = true := by simp [hf]
    obtain ⟨c0, c1, c2, c3, c4, c5, c6⟩ := HX0.out
    obtain ⟨e0, e1, e2, e3, e4, e5, e6⟩ := HY0.out
    clear HR
    go_enter Tryz.func11, Tryz.ntmps11
    go_wp2_with (first | rw [HW0.out] | rw [HH.out])
    go_ret
    exact ⟨rfl, by first | exact HB0.out | exact (HH.out ▸ HB0.out)⟩

  subst hf
  by_cases hn2 : no = no2
  case neg =>
    have hn : R = false := by
      rw [← HR.out]
      exact Bool.eq_false_iff.2 fun e => hn2 (by have := M.sameR_iff.1 e; injection this)
    subst hn
    have n1 : ((no : Int) != (no2 : Int)) = true := by simp; omega
    obtain ⟨c0, c1, c2, c3, c4, c5, c6⟩ := HX0.out
    obtain ⟨e0, e1, e2, e3, e4, e5, e6⟩ := HY0.out
    clear HR
    go_enter Tryz.func11, Tryz.ntmps11
    go_wp2_with (first | rw [HW0.out] | rw [HH.out])
    go_ret
    exact ⟨rfl, by first | exact HB0.out | exact (HH.out ▸ HB0.out)⟩

  subst hn2
  by_cases hv : ve = ve2
  case neg =>
    have hn : R = false := by
      rw [← HR.out]
      exact Bool.eq_false_iff.2 fun e => hv (by have := M.sameR_iff.1 e; injection this)
    subst hn
    have n1 : ((ve : Int) != (ve2 : Int)) = true := by simp; omega
    obtain ⟨c0, c1, c2, c3, c4, c5, c6⟩ := HX0.out
    obtain ⟨e0, e1, e2, e3, e4, e5, e6⟩ := HY0.out
    clear HR
    go_enter Tryz.func11, Tryz.ntmps11
    go_wp2_with (first | rw [HW0.out] | rw [HH.out])
    go_ret
    exact ⟨rfl, by first | exact HB0.out | exact (HH.out ▸ HB0.out)⟩

  subst hv
  by_cases hl : ls.length = ms.length
  case neg =>
    have hn : R = false := by
      rw [← HR.out]
      exact Bool.eq_false_iff.2 fun e => hl (by have := M.sameR_iff.1 e; injection this with q0 q1 q2 q3; rw [q3])
    subst hn
    have n1 : ((ls.length : Int) != (ms.length : Int)) = true := by simp; omega
    obtain ⟨c0, c1, c2, c3, c4, c5, c6⟩ := HX0.out
    obtain ⟨e0, e1, e2, e3, e4, e5, e6⟩ := HY0.out
    clear HR
    go_enter Tryz.func11, Tryz.ntmps11
    go_wp2_with (first | rw [HW0.out] | rw [HH.out])
    go_ret
    exact ⟨rfl, by first | exact HB0.out | exact (HH.out ▸ HB0.out)⟩

  have n1 : ((ls.length : Int) != (ms.length : Int)) = false := by simp; omega
  have HLEN := Lib.hid hl
  obtain ⟨c0, c1, c2, c3, c4, c5, c6⟩ := HX0.out
  obtain ⟨e0, e1, e2, e3, e4, e5, e6⟩ := HY0.out
  clear hl
  go_enter Tryz.func11, Tryz.ntmps11
  go_wp2_with (first | rw [HW0.out] | rw [HH.out])
  clear c0 c1 c2 c3 c4 c5 c6 e0 e1 e2 e3 e4 e5 e6 n1
  go_loopw [5] (fun i wr => ∃ j : Nat, j ≤ ls.length ∧ i = .int .i64 (j : Nat) ∧ ls.take j = ms.take j ∧ Below w0.heap.size w0 wr) (fun i _ => ls.length - (RowKit.intOf i).toNat)
  case atStart => exact ⟨0, Nat.zero_le _, rfl, by simp, Below.refl _ _⟩
  case round =>
    obtain ⟨j, hj, rfl, hq, hW⟩ := hrel
    obtain ⟨c0, c1, c2, c3, c4, c5, c6⟩ := HX0.out.from_ hW
    clear c0 c1 c2 c4 c5 c6
    by_cases hlt : j < ls.length
    · have hlt2 : j < ms.length := by have := HLEN.out; omega
      obtain ⟨q, o, g, ta, tc, rfl, hqn, hx, k0, k1, k2, hT1⟩ := HA.out.at_ hlt
      obtain ⟨q2, o2, g2, ta2, tc2, rfl, hqn2, hy, m0, m1, m2, hT2⟩ := HB.out.at_ hlt2
      have ht1 := HF.out.2 g (List.mem_of_getElem? hx)
      have ht2 := HG.out.2 g2 (List.mem_of_getElem? hy)
      have HX1 := Lib.hid hx
      have HY1 := Lib.hid hy
      have HQ := Lib.hid hq
      have HWW := Lib.hid hW
      obtain ⟨ad, tp, dt⟩ := g
      obtain ⟨ad2, tp2, dt2⟩ := g2
      dsimp only at k0 k1 k2 m0 m1 m2 hT1 hT2 ht1 ht2
      have HXW := Lib.hid (fun W (hC : Below wr.heap.size wr W) => (HX0.out.from_ hW).from_ hC)
      have HYW := Lib.hid (fun W (hC : Below wr.heap.size wr W) => (HY0.out.from_ hW).from_ hC)
      have HAW := Lib.hid (fun W (hC : Below wr.heap.size wr W) => (show W.cell? ⟨q, o + j * 3, none⟩ = some (.string ⟨ad.toArray⟩) ∧ W.cell? ⟨q, o + j * 3 + 1, none⟩ = some (.slice ta tp.length tc) ∧ W.cell? ⟨q, o + j * 3 + 2, none⟩ = some (.string ⟨dt.toArray⟩) from
        have hB := hW.trans (hC.mono hW.size)
        ⟨(hB.cell (p := ⟨q, _, none⟩) hqn).trans k0, (hB.cell (p := ⟨q, _, none⟩) hqn).trans k1, (hB.cell (p := ⟨q, _, none⟩) hqn).trans k2⟩))
      have HBW := Lib.hid (fun W (hC : Below wr.heap.size wr W) => (show W.cell? ⟨q2, o2 + j * 3, none⟩ = some (.string ⟨ad2.toArray⟩) ∧ W.cell? ⟨q2, o2 + j * 3 + 1, none⟩ = some (.slice ta2 tp2.length tc2) ∧ W.cell? ⟨q2, o2 + j * 3 + 2, none⟩ = some (.string ⟨dt2.toArray⟩) from
        have hB := hW.trans (hC.mono hW.size)
        ⟨(hB.cell (p := ⟨q2, _, none⟩) hqn2).trans m0, (hB.cell (p := ⟨q2, _, none⟩) hqn2).trans m1, (hB.cell (p := ⟨q2, _, none⟩) hqn2).trans m2⟩))
      have HTX := Lib.hid (fun W (hC : Below wr.heap.size wr W) => rtexts_any tp tp2 ta ta2 tc tc2 W (hT1.kept_ (hW.trans (hC.mono hW.size))) (hT2.kept_ (hW.trans (hC.mono hW.size))) ht1 ht2)
      have hj9 : j < 1000 := by omega
      have hlti : (j : Int) < (ls.length : Int) := by omega
      have hlti2 : (j : Int) < (ms.length : Int) := by omega
      clear hx hy hq k0 k1 k2 m0 m1 m2 hT1 hT2 ht1 ht2 hqn hqn2 hW hlt hlt2 hj
      obtain ⟨qt, hqt⟩ : ∃ qt, decide (tp = tp2) = qt := ⟨_, rfl⟩
      rw [hqt] at HTX
      have HQT := Lib.hid hqt
      clear hqt
      go_wp2_with fail
      refine wp_region_held (S := Below wr.heap.size wr) mixed ?_
      have hS0 : Below wr.heap.size wr wr.drew := (Below.refl _ _).drew
      rw [show Array.replicate (Array.size _) false = #[false, false, false, false, false, false, false, false, false, false, false, false, false, false] from rfl, show Array.size (α := Oper) _ = 14 from rfl]
      refine wpAnyH_take (i := 0) (v := .pointer (some ⟨h, 3, none⟩)) rfl (by kernel_rfl) (by kernel_rfl) (by kernel_rfl) (fun _ _ _ h => h) (Or.inl ⟨by rfl, ?_⟩) hS0 ?_
      · intro Y hY
        skip
        go_simp
      simp only [Act.put, List.getElem_toArray, List.getElem_cons_zero, List.setIfInBounds_toArray, List.set_cons_zero, List.set_cons_succ]
      refine wpAnyH_take (i := 1) (v := .slice (some ⟨q, o, none⟩) ls.length ca) rfl (by kernel_rfl) (by kernel_rfl) (by kernel_rfl) (fun _ _ _ h => h) (Or.inl ⟨by rfl, ?_⟩) hS0 ?_
      · intro Y hY
        obtain ⟨c0, c1, c2, c3, c4, c5, c6⟩ := HXW.out Y hY
        go_simp
      simp only [Act.put, List.getElem_toArray, List.getElem_cons_succ, List.getElem_cons_zero, List.setIfInBounds_toArray, List.set_cons_zero, List.set_cons_succ]
      refine wpAnyH_take (i := 2) (v := .int .i64 (j : Nat)) rfl (by kernel_rfl) (by kernel_rfl) (by kernel_rfl) (fun _ _ _ h => h) (Or.inl ⟨by rfl, ?_⟩) hS0 ?_
      · intro Y hY
        skip
        go_simp
      simp only [Act.put, List.getElem_toArray, List.getElem_cons_succ, List.getElem_cons_zero, List.setIfInBounds_toArray, List.set_cons_zero, List.set_cons_succ]
      refine wpAnyH_take (i := 3) (v := .pointer (some ⟨q, o + j * 3, none⟩)) rfl (by kernel_rfl) (by kernel_rfl) (by kernel_rfl) (fun _ _ _ h => h) (Or.inl ⟨by rfl, ?_⟩) hS0 ?_
      · intro Y hY
        skip
        go_simp
      simp only [Act.put, List.getElem_toArray, List.getElem_cons_succ, List.getElem_cons_zero, List.setIfInBounds_toArray, List.set_cons_zero, List.set_cons_succ]
      refine wpAnyH_take (i := 4) (v := .pointer (some ⟨q, o + j * 3 + 1, none⟩)) rfl (by kernel_rfl) (by kernel_rfl) (by kernel_rfl) (fun _ _ _ h => h) (Or.inl ⟨by rfl, ?_⟩) hS0 ?_
      · intro Y hY
        skip
        go_simp
      simp only [Act.put, List.getElem_toArray, List.getElem_cons_succ, List.getElem_cons_zero, List.setIfInBounds_toArray, List.set_cons_zero, List.set_cons_succ]
      refine wpAnyH_take (i := 5) (v := .slice ta tp.length tc) rfl (by kernel_rfl) (by kernel_rfl) (by kernel_rfl) (fun _ _ _ h => h) (Or.inl ⟨by rfl, ?_⟩) hS0 ?_
      · intro Y hY
        obtain ⟨d0, d1, d2⟩ := HAW.out Y hY
        go_simp
      simp only [Act.put, List.getElem_toArray, List.getElem_cons_succ, List.getElem_cons_zero, List.setIfInBounds_toArray, List.set_cons_zero, List.set_cons_succ]
      refine wpAnyH_take (i := 6) (v := .pointer (some ⟨h + 1, 3, none⟩)) rfl (by kernel_rfl) (by kernel_rfl) (by kernel_rfl) (fun _ _ _ h => h) (Or.inl ⟨by rfl, ?_⟩) hS0 ?_
      · intro Y hY
        skip
        go_simp
      simp only [Act.put, List.getElem_toArray, List.getElem_cons_succ, List.getElem_cons_zero, List.setIfInBounds_toArray, List.set_cons_zero, List.set_cons_succ]
      refine wpAnyH_take (i := 7) (v := .slice (some ⟨q2, o2, none⟩) ms.length cb) rfl (by kernel_rfl) (by kernel_rfl) (by kernel_rfl) (fun _ _ _ h => h) (Or.inl ⟨by rfl, ?_⟩) hS0 ?_
      · intro Y hY
        obtain ⟨c0, c1, c2, c3, c4, c5, c6⟩ := HYW.out Y hY
        go_simp
      simp only [Act.put, List.getElem_toArray, List.getElem_cons_succ, List.getElem_cons_zero, List.setIfInBounds_toArray, List.set_cons_zero, List.set_cons_succ]
      refine wpAnyH_take (i := 8) (v := .int .i64 (j : Nat)) rfl (by kernel_rfl) (by kernel_rfl) (by kernel_rfl) (fun _ _ _ h => h) (Or.inl ⟨by rfl, ?_⟩) hS0 ?_
      · intro Y hY
        skip
        go_simp
      simp only [Act.put, List.getElem_toArray, List.getElem_cons_succ, List.getElem_cons_zero, List.setIfInBounds_toArray, List.set_cons_zero, List.set_cons_succ]
      refine wpAnyH_take (i := 9) (v := .pointer (some ⟨q2, o2 + j * 3, none⟩)) rfl (by kernel_rfl) (by kernel_rfl) (by kernel_rfl) (fun _ _ _ h => h) (Or.inl ⟨by rfl, ?_⟩) hS0 ?_
      · intro Y hY
        skip
        go_simp
      simp only [Act.put, List.getElem_toArray, List.getElem_cons_succ, List.getElem_cons_zero, List.setIfInBounds_toArray, List.set_cons_zero, List.set_cons_succ]
      refine wpAnyH_take (i := 10) (v := .pointer (some ⟨q2, o2 + j * 3 + 1, none⟩)) rfl (by kernel_rfl) (by kernel_rfl) (by kernel_rfl) (fun _ _ _ h => h) (Or.inl ⟨by rfl, ?_⟩) hS0 ?_
      · intro Y hY
        skip
        go_simp
      simp only [Act.put, List.getElem_toArray, List.getElem_cons_succ, List.getElem_cons_zero, List.setIfInBounds_toArray, List.set_cons_zero, List.set_cons_succ]
      refine wpAnyH_take (i := 11) (v := .slice ta2 tp2.length tc2) rfl (by kernel_rfl) (by kernel_rfl) (by kernel_rfl) (fun _ _ _ h => h) (Or.inl ⟨by rfl, ?_⟩) hS0 ?_
      · intro Y hY
        obtain ⟨d0, d1, d2⟩ := HBW.out Y hY
        go_simp
      simp only [Act.put, List.getElem_toArray, List.getElem_cons_succ, List.getElem_cons_zero, List.setIfInBounds_toArray, List.set_cons_zero, List.set_cons_succ]
      refine wpAnyH_ready (rs := [12]) (by kernel_rfl) (by simp) ?_
      refine AllReadyH.cons rfl (fun K hK => ?_) AllReadyH.nil
      go_simp
      refine (HTX.out _ hS0).mono ?_
      rintro e w6 ⟨rfl, hb6⟩
      have hS6 : Below wr.heap.size wr w6 := hS0.trans (Below.mono hb6 hS0.size)
      try go_wp2_with fail
      refine hK.out _ _ hS6 (fun _ => ?_)
      clear hK K
      simp only [List.setIfInBounds_toArray, List.set_cons_zero, List.set_cons_succ]
      refine wpAnyH_take (i := 13) (v := .bool qt) rfl (by kernel_rfl) (by kernel_rfl) (by kernel_rfl) (fun _ _ _ h => h) (Or.inl ⟨by rfl, ?_⟩) hS6 ?_
      · intro Y hY
        skip
        go_simp
      simp only [Act.put, List.getElem_toArray, List.getElem_cons_succ, List.getElem_cons_zero, List.setIfInBounds_toArray, List.set_cons_zero, List.set_cons_succ]
      refine wpAnyH_done (by kernel_rfl) ?_ _
      go_wp2_with fail
      have hNO : (⟨ad, tp, dt⟩ : M.Lg) ≠ ⟨ad2, tp2, dt2⟩ → R = false := fun hne => by
        rw [← HR.out]
        exact Bool.eq_false_iff.2 fun e => by
          have e1 := M.sameR_iff.1 e
          injection e1 with q0 q1 q2 q3
          have e2 := HX1.out
          rw [q3, HY1.out] at e2
          exact hne (Option.some.inj e2).symm
      have HNO := Lib.hid hNO
      clear hNO
      by_cases ha : ad = ad2
      · by_cases hd : dt = dt2
        · have HEA := Lib.hid ha
          have HED := Lib.hid hd
          cases qt with
          | true =>
            have hnx : ls.take (j + 1) = ms.take (j + 1) := by
              have e1 := HX1.out
              rw [ha, hd, of_decide_eq_true HQT.out] at e1
              rw [List.take_add_one, List.take_add_one, HQ.out, e1, HY1.out]
            have HNX := Lib.hid hnx
            clear hnx ha hd
            refine wp_region_held (S := Below wr.heap.size wr) mixed ?_
            have hS7 : Below wr.heap.size wr w6.drew := Below.drew hS6
            rw [show Array.replicate (Array.size _) false = #[false, false, false, false, false, false, false, false, false, false, false, false, false, false, false, false, false, false, false, false, false, false, false, false, false, false, false, false, false, false, false, false] from rfl, show Array.size (α := Oper) _ = 32 from rfl]
            refine wpAnyH_take (i := 0) (v := .pointer (some ⟨h, 3, none⟩)) rfl (by kernel_rfl) (by kernel_rfl) (by kernel_rfl) (fun _ _ _ h => h) (Or.inl ⟨by rfl, ?_⟩) hS7 ?_
            · intro Y hY
              skip
              go_simp
            simp only [Act.put, List.getElem_toArray, List.getElem_cons_zero, List.setIfInBounds_toArray, List.set_cons_zero, List.set_cons_succ]
            refine wpAnyH_take (i := 1) (v := .slice (some ⟨q, o, none⟩) ls.length ca) rfl (by kernel_rfl) (by kernel_rfl) (by kernel_rfl) (fun _ _ _ h => h) (Or.inl ⟨by rfl, ?_⟩) hS7 ?_
            · intro Y hY
              obtain ⟨c0, c1, c2, c3, c4, c5, c6⟩ := HXW.out Y hY
              go_simp
            simp only [Act.put, List.getElem_toArray, List.getElem_cons_succ, List.getElem_cons_zero, List.setIfInBounds_toArray, List.set_cons_zero, List.set_cons_succ]
            refine wpAnyH_take (i := 2) (v := .int .i64 (j : Nat)) rfl (by kernel_rfl) (by kernel_rfl) (by kernel_rfl) (fun _ _ _ h => h) (Or.inl ⟨by rfl, ?_⟩) hS7 ?_
            · intro Y hY
              skip
              go_simp
            simp only [Act.put, List.getElem_toArray, List.getElem_cons_succ, List.getElem_cons_zero, List.setIfInBounds_toArray, List.set_cons_zero, List.set_cons_succ]
            refine wpAnyH_take (i := 3) (v := .pointer (some ⟨q, o + j * 3, none⟩)) rfl (by kernel_rfl) (by kernel_rfl) (by kernel_rfl) (fun _ _ _ h => h) (Or.inl ⟨by rfl, ?_⟩) hS7 ?_
            · intro Y hY
              skip
              go_simp
            simp only [Act.put, List.getElem_toArray, List.getElem_cons_succ, List.getElem_cons_zero, List.setIfInBounds_toArray, List.set_cons_zero, List.set_cons_succ]
            refine wpAnyH_take (i := 4) (v := .pointer (some ⟨q, o + j * 3, none⟩)) rfl (by kernel_rfl) (by kernel_rfl) (by kernel_rfl) (fun _ _ _ h => h) (Or.inl ⟨by rfl, ?_⟩) hS7 ?_
            · intro Y hY
              skip
              go_simp
            simp only [Act.put, List.getElem_toArray, List.getElem_cons_succ, List.getElem_cons_zero, List.setIfInBounds_toArray, List.set_cons_zero, List.set_cons_succ]
            refine wpAnyH_take (i := 5) (v := .string ⟨ad.toArray⟩) rfl (by kernel_rfl) (by kernel_rfl) (by kernel_rfl) (fun _ _ _ h => h) (Or.inl ⟨by rfl, ?_⟩) hS7 ?_
            · intro Y hY
              obtain ⟨d0, d1, d2⟩ := HAW.out Y hY
              go_simp
            simp only [Act.put, List.getElem_toArray, List.getElem_cons_succ, List.getElem_cons_zero, List.setIfInBounds_toArray, List.set_cons_zero, List.set_cons_succ]
            refine wpAnyH_take (i := 6) (v := .pointer (some ⟨h + 1, 3, none⟩)) rfl (by kernel_rfl) (by kernel_rfl) (by kernel_rfl) (fun _ _ _ h => h) (Or.inl ⟨by rfl, ?_⟩) hS7 ?_
            · intro Y hY
              skip
              go_simp
            simp only [Act.put, List.getElem_toArray, List.getElem_cons_succ, List.getElem_cons_zero, List.setIfInBounds_toArray, List.set_cons_zero, List.set_cons_succ]
            refine wpAnyH_take (i := 7) (v := .slice (some ⟨q2, o2, none⟩) ms.length cb) rfl (by kernel_rfl) (by kernel_rfl) (by kernel_rfl) (fun _ _ _ h => h) (Or.inl ⟨by rfl, ?_⟩) hS7 ?_
            · intro Y hY
              obtain ⟨c0, c1, c2, c3, c4, c5, c6⟩ := HYW.out Y hY
              go_simp
            simp only [Act.put, List.getElem_toArray, List.getElem_cons_succ, List.getElem_cons_zero, List.setIfInBounds_toArray, List.set_cons_zero, List.set_cons_succ]
            refine wpAnyH_take (i := 8) (v := .int .i64 (j : Nat)) rfl (by kernel_rfl) (by kernel_rfl) (by kernel_rfl) (fun _ _ _ h => h) (Or.inl ⟨by rfl, ?_⟩) hS7 ?_
            · intro Y hY
              skip
              go_simp
            simp only [Act.put, List.getElem_toArray, List.getElem_cons_succ, List.getElem_cons_zero, List.setIfInBounds_toArray, List.set_cons_zero, List.set_cons_succ]
            refine wpAnyH_take (i := 9) (v := .pointer (some ⟨q2, o2 + j * 3, none⟩)) rfl (by kernel_rfl) (by kernel_rfl) (by kernel_rfl) (fun _ _ _ h => h) (Or.inl ⟨by rfl, ?_⟩) hS7 ?_
            · intro Y hY
              skip
              go_simp
            simp only [Act.put, List.getElem_toArray, List.getElem_cons_succ, List.getElem_cons_zero, List.setIfInBounds_toArray, List.set_cons_zero, List.set_cons_succ]
            refine wpAnyH_take (i := 10) (v := .pointer (some ⟨q2, o2 + j * 3, none⟩)) rfl (by kernel_rfl) (by kernel_rfl) (by kernel_rfl) (fun _ _ _ h => h) (Or.inl ⟨by rfl, ?_⟩) hS7 ?_
            · intro Y hY
              skip
              go_simp
            simp only [Act.put, List.getElem_toArray, List.getElem_cons_succ, List.getElem_cons_zero, List.setIfInBounds_toArray, List.set_cons_zero, List.set_cons_succ]
            refine wpAnyH_take (i := 11) (v := .string ⟨ad2.toArray⟩) rfl (by kernel_rfl) (by kernel_rfl) (by kernel_rfl) (fun _ _ _ h => h) (Or.inl ⟨by rfl, ?_⟩) hS7 ?_
            · intro Y hY
              obtain ⟨d0, d1, d2⟩ := HBW.out Y hY
              go_simp
            simp only [Act.put, List.getElem_toArray, List.getElem_cons_succ, List.getElem_cons_zero, List.setIfInBounds_toArray, List.set_cons_zero, List.set_cons_succ]
            refine wpAnyH_take (i := 12) (v := .bool false) rfl (by kernel_rfl) (by kernel_rfl) (by kernel_rfl) (fun _ _ _ h => h) (Or.inl ⟨by rfl, ?_⟩) hS7 ?_
            · intro Y hY
              skip
              go_simp
              first | done | exact HEA.out | exact HED.out
            simp only [Act.put, List.getElem_toArray, List.getElem_cons_succ, List.getElem_cons_zero, List.setIfInBounds_toArray, List.set_cons_zero, List.set_cons_succ]
            refine wpAnyH_take (i := 13) (v := .bool false) rfl (by kernel_rfl) (by kernel_rfl) (by kernel_rfl) (fun _ _ _ h => h) (Or.inl ⟨by rfl, ?_⟩) hS7 ?_
            · intro Y hY
              skip
              go_simp
            simp only [Act.put, List.getElem_toArray, List.getElem_cons_succ, List.getElem_cons_zero, List.setIfInBounds_toArray, List.set_cons_zero, List.set_cons_succ]
            refine wpAnyH_take (i := 14) (v := .pointer (some ⟨h, 3, none⟩)) rfl (by kernel_rfl) (by kernel_rfl) (by kernel_rfl) (fun _ _ _ h => h) (Or.inl ⟨by rfl, ?_⟩) hS7 ?_
            · intro Y hY
              skip
              go_simp
            simp only [Act.put, List.getElem_toArray, List.getElem_cons_succ, List.getElem_cons_zero, List.setIfInBounds_toArray, List.set_cons_zero, List.set_cons_succ]
            refine wpAnyH_take (i := 15) (v := .slice (some ⟨q, o, none⟩) ls.length ca) rfl (by kernel_rfl) (by kernel_rfl) (by kernel_rfl) (fun _ _ _ h => h) (Or.inl ⟨by rfl, ?_⟩) hS7 ?_
            · intro Y hY
              obtain ⟨c0, c1, c2, c3, c4, c5, c6⟩ := HXW.out Y hY
              go_simp
            simp only [Act.put, List.getElem_toArray, List.getElem_cons_succ, List.getElem_cons_zero, List.setIfInBounds_toArray, List.set_cons_zero, List.set_cons_succ]
            refine wpAnyH_take (i := 16) (v := .int .i64 (j : Nat)) rfl (by kernel_rfl) (by kernel_rfl) (by kernel_rfl) (fun _ _ _ h => h) (Or.inl ⟨by rfl, ?_⟩) hS7 ?_
            · intro Y hY
              skip
              go_simp
            simp only [Act.put, List.getElem_toArray, List.getElem_cons_succ, List.getElem_cons_zero, List.setIfInBounds_toArray, List.set_cons_zero, List.set_cons_succ]
            refine wpAnyH_take (i := 17) (v := .pointer (some ⟨q, o + j * 3, none⟩)) rfl (by kernel_rfl) (by kernel_rfl) (by kernel_rfl) (fun _ _ _ h => h) (Or.inl ⟨by rfl, ?_⟩) hS7 ?_
            · intro Y hY
              skip
              go_simp
            simp only [Act.put, List.getElem_toArray, List.getElem_cons_succ, List.getElem_cons_zero, List.setIfInBounds_toArray, List.set_cons_zero, List.set_cons_succ]
            refine wpAnyH_take (i := 18) (v := .pointer (some ⟨q, o + j * 3 + 2, none⟩)) rfl (by kernel_rfl) (by kernel_rfl) (by kernel_rfl) (fun _ _ _ h => h) (Or.inl ⟨by rfl, ?_⟩) hS7 ?_
            · intro Y hY
              skip
              go_simp
            simp only [Act.put, List.getElem_toArray, List.getElem_cons_succ, List.getElem_cons_zero, List.setIfInBounds_toArray, List.set_cons_zero, List.set_cons_succ]
            refine wpAnyH_take (i := 19) (v := .string ⟨dt.toArray⟩) rfl (by kernel_rfl) (by kernel_rfl) (by kernel_rfl) (fun _ _ _ h => h) (Or.inl ⟨by rfl, ?_⟩) hS7 ?_
            · intro Y hY
              obtain ⟨d0, d1, d2⟩ := HAW.out Y hY
              go_simp
            simp only [Act.put, List.getElem_toArray, List.getElem_cons_succ, List.getElem_cons_zero, List.setIfInBounds_toArray, List.set_cons_zero, List.set_cons_succ]
            refine wpAnyH_take (i := 20) (v := .pointer (some ⟨h + 1, 3, none⟩)) rfl (by kernel_rfl) (by kernel_rfl) (by kernel_rfl) (fun _ _ _ h => h) (Or.inl ⟨by rfl, ?_⟩) hS7 ?_
            · intro Y hY
              skip
              go_simp
            simp only [Act.put, List.getElem_toArray, List.getElem_cons_succ, List.getElem_cons_zero, List.setIfInBounds_toArray, List.set_cons_zero, List.set_cons_succ]
            refine wpAnyH_take (i := 21) (v := .slice (some ⟨q2, o2, none⟩) ms.length cb) rfl (by kernel_rfl) (by kernel_rfl) (by kernel_rfl) (fun _ _ _ h => h) (Or.inl ⟨by rfl, ?_⟩) hS7 ?_
            · intro Y hY
              obtain ⟨c0, c1, c2, c3, c4, c5, c6⟩ := HYW.out Y hY
              go_simp
            simp only [Act.put, List.getElem_toArray, List.getElem_cons_succ, List.getElem_cons_zero, List.setIfInBounds_toArray, List.set_cons_zero, List.set_cons_succ]
            refine wpAnyH_take (i := 22) (v := .int .i64 (j : Nat)) rfl (by kernel_rfl) (by kernel_rfl) (by kernel_rfl) (fun _ _ _ h => h) (Or.inl ⟨by rfl, ?_⟩) hS7 ?_
            · intro Y hY
              skip
              go_simp
            simp only [Act.put, List.getElem_toArray, List.getElem_cons_succ, List.getElem_cons_zero, List.setIfInBounds_toArray, List.set_cons_zero, List.set_cons_succ]
            refine wpAnyH_take (i := 23) (v := .pointer (some ⟨q2, o2 + j * 3, none⟩)) rfl (by kernel_rfl) (by kernel_rfl) (by kernel_rfl) (fun _ _ _ h => h) (Or.inl ⟨by rfl, ?_⟩) hS7 ?_
            · intro Y hY
              skip
              go_simp
            simp only [Act.put, List.getElem_toArray, List.getElem_cons_succ, List.getElem_cons_zero, List.setIfInBounds_toArray, List.set_cons_zero, List.set_cons_succ]
            refine wpAnyH_take (i := 24) (v := .pointer (some ⟨q2, o2 + j * 3 + 2, none⟩)) rfl (by kernel_rfl) (by kernel_rfl) (by kernel_rfl) (fun _ _ _ h => h) (Or.inl ⟨by rfl, ?_⟩) hS7 ?_
            · intro Y hY
              skip
              go_simp
            simp only [Act.put, List.getElem_toArray, List.getElem_cons_succ, List.getElem_cons_zero, List.setIfInBounds_toArray, List.set_cons_zero, List.set_cons_succ]
            refine wpAnyH_take (i := 25) (v := .string ⟨dt2.toArray⟩) rfl (by kernel_rfl) (by kernel_rfl) (by kernel_rfl) (fun _ _ _ h => h) (Or.inl ⟨by rfl, ?_⟩) hS7 ?_
            · intro Y hY
              obtain ⟨d0, d1, d2⟩ := HBW.out Y hY
              go_simp
            simp only [Act.put, List.getElem_toArray, List.getElem_cons_succ, List.getElem_cons_zero, List.setIfInBounds_toArray, List.set_cons_zero, List.set_cons_succ]
            refine wpAnyH_take (i := 26) (v := .bool false) rfl (by kernel_rfl) (by kernel_rfl) (by kernel_rfl) (fun _ _ _ h => h) (Or.inl ⟨by rfl, ?_⟩) hS7 ?_
            · intro Y hY
              skip
              go_simp
              first | done | exact HEA.out | exact HED.out
            simp only [Act.put, List.getElem_toArray, List.getElem_cons_succ, List.getElem_cons_zero, List.setIfInBounds_toArray, List.set_cons_zero, List.set_cons_succ]
            refine wpAnyH_take (i := 27) (v := .bool false) rfl (by kernel_rfl) (by kernel_rfl) (by kernel_rfl) (fun _ _ _ h => h) (Or.inl ⟨by rfl, ?_⟩) hS7 ?_
            · intro Y hY
              skip
              go_simp
            simp only [Act.put, List.getElem_toArray, List.getElem_cons_succ, List.getElem_cons_zero, List.setIfInBounds_toArray, List.set_cons_zero, List.set_cons_succ]
            refine wpAnyH_take (i := 28) (v := .bool false) rfl (by kernel_rfl) (by kernel_rfl) (by kernel_rfl) (fun _ _ _ h => h) (Or.inl ⟨by rfl, ?_⟩) hS7 ?_
            · intro Y hY
              skip
              go_simp
            simp only [Act.put, List.getElem_toArray, List.getElem_cons_succ, List.getElem_cons_zero, List.setIfInBounds_toArray, List.set_cons_zero, List.set_cons_succ]
            refine wpAnyH_take (i := 29) (v := .bool true) rfl (by kernel_rfl) (by kernel_rfl) (by kernel_rfl) (fun _ _ _ h => h) (Or.inl ⟨by rfl, ?_⟩) hS7 ?_
            · intro Y hY
              skip
              go_simp
            simp only [Act.put, List.getElem_toArray, List.getElem_cons_succ, List.getElem_cons_zero, List.setIfInBounds_toArray, List.set_cons_zero, List.set_cons_succ]
            refine wpAnyH_take (i := 30) (v := .bool false) rfl (by kernel_rfl) (by kernel_rfl) (by kernel_rfl) (fun _ _ _ h => h) (Or.inl ⟨by rfl, ?_⟩) hS7 ?_
            · intro Y hY
              skip
              go_simp
            simp only [Act.put, List.getElem_toArray, List.getElem_cons_succ, List.getElem_cons_zero, List.setIfInBounds_toArray, List.set_cons_zero, List.set_cons_succ]
            refine wpAnyH_take (i := 31) (v := .bool false) rfl (by kernel_rfl) (by kernel_rfl) (by kernel_rfl) (fun _ _ _ h => h) (Or.inl ⟨by rfl, ?_⟩) hS7 ?_
            · intro Y hY
              skip
              go_simp
            simp only [Act.put, List.getElem_toArray, List.getElem_cons_succ, List.getElem_cons_zero, List.setIfInBounds_toArray, List.set_cons_zero, List.set_cons_succ]
            refine wpAnyH_done (by kernel_rfl) ?_ _
            go_wp2_with fail
            exact ⟨⟨j + 1, by omega, by simp, HNX.out, HWW.out.trans (hS7.mono HWW.out.size)⟩, by simp [RowKit.intOf]; omega⟩
          | false =>
            have hn : R = false := HNO.out (fun e => by injection e with e1 e2 e3; exact of_decide_eq_false HQT.out e2)
            subst hn
            clear ha hd
            refine wp_region_held (S := Below wr.heap.size wr) mixed ?_
            have hS7 : Below wr.heap.size wr w6.drew := Below.drew hS6
            rw [show Array.replicate (Array.size _) false = #[false, false, false, false, false, false, false, false, false, false, false, false, false, false, false, false, false, false, false, false, false, false, false, false, false, false, false, false, false, false, false, false] from rfl, show Array.size (α := Oper) _ = 32 from rfl]
            refine wpAnyH_take (i := 0) (v := .pointer (some ⟨h, 3, none⟩)) rfl (by kernel_rfl) (by kernel_rfl) (by kernel_rfl) (fun _ _ _ h => h) (Or.inl ⟨by rfl, ?_⟩) hS7 ?_
            · intro Y hY
              skip
              go_simp
            simp only [Act.put, List.getElem_toArray, List.getElem_cons_zero, List.setIfInBounds_toArray, List.set_cons_zero, List.set_cons_succ]
            refine wpAnyH_take (i := 1) (v := .slice (some ⟨q, o, none⟩) ls.length ca) rfl (by kernel_rfl) (by kernel_rfl) (by kernel_rfl) (fun _ _ _ h => h) (Or.inl ⟨by rfl, ?_⟩) hS7 ?_
            · intro Y hY
              obtain ⟨c0, c1, c2, c3, c4, c5, c6⟩ := HXW.out Y hY
              go_simp
            simp only [Act.put, List.getElem_toArray, List.getElem_cons_succ, List.getElem_cons_zero, List.setIfInBounds_toArray, List.set_cons_zero, List.set_cons_succ]
            refine wpAnyH_take (i := 2) (v := .int .i64 (j : Nat)) rfl (by kernel_rfl) (by kernel_rfl) (by kernel_rfl) (fun _ _ _ h => h) (Or.inl ⟨by rfl, ?_⟩) hS7 ?_
            · intro Y hY
              skip
              go_simp
            simp only [Act.put, List.getElem_toArray, List.getElem_cons_succ, List.getElem_cons_zero, List.setIfInBounds_toArray, List.set_cons_zero, List.set_cons_succ]
            refine wpAnyH_take (i := 3) (v := .pointer (some ⟨q, o + j * 3, none⟩)) rfl (by kernel_rfl) (by kernel_rfl) (by kernel_rfl) (fun _ _ _ h => h) (Or.inl ⟨by rfl, ?_⟩) hS7 ?_
            · intro Y hY
              skip
              go_simp
            simp only [Act.put, List.getElem_toArray, List.getElem_cons_succ, List.getElem_cons_zero, List.setIfInBounds_toArray, List.set_cons_zero, List.set_cons_succ]
            refine wpAnyH_take (i := 4) (v := .pointer (some ⟨q, o + j * 3, none⟩)) rfl (by kernel_rfl) (by kernel_rfl) (by kernel_rfl) (fun _ _ _ h => h) (Or.inl ⟨by rfl, ?_⟩) hS7 ?_
            · intro Y hY
              skip
              go_simp
            simp only [Act.put, List.getElem_toArray, List.getElem_cons_succ, List.getElem_cons_zero, List.setIfInBounds_toArray, List.set_cons_zero, List.set_cons_succ]
            refine wpAnyH_take (i := 5) (v := .string ⟨ad.toArray⟩) rfl (by kernel_rfl) (by kernel_rfl) (by kernel_rfl) (fun _ _ _ h => h) (Or.inl ⟨by rfl, ?_⟩) hS7 ?_
            · intro Y hY
              obtain ⟨d0, d1, d2⟩ := HAW.out Y hY
              go_simp
            simp only [Act.put, List.getElem_toArray, List.getElem_cons_succ, List.getElem_cons_zero, List.setIfInBounds_toArray, List.set_cons_zero, List.set_cons_succ]
            refine wpAnyH_take (i := 6) (v := .pointer (some ⟨h + 1, 3, none⟩)) rfl (by kernel_rfl) (by kernel_rfl) (by kernel_rfl) (fun _ _ _ h => h) (Or.inl ⟨by rfl, ?_⟩) hS7 ?_
            · intro Y hY
              skip
              go_simp
            simp only [Act.put, List.getElem_toArray, List.getElem_cons_succ, List.getElem_cons_zero, List.setIfInBounds_toArray, List.set_cons_zero, List.set_cons_succ]
            refine wpAnyH_take (i := 7) (v := .slice (some ⟨q2, o2, none⟩) ms.length cb) rfl (by kernel_rfl) (by kernel_rfl) (by kernel_rfl) (fun _ _ _ h => h) (Or.inl ⟨by rfl, ?_⟩) hS7 ?_
            · intro Y hY
              obtain ⟨c0, c1, c2, c3, c4, c5, c6⟩ := HYW.out Y hY
              go_simp
            simp only [Act.put, List.getElem_toArray, List.getElem_cons_succ, List.getElem_cons_zero, List.setIfInBounds_toArray, List.set_cons_zero, List.set_cons_succ]
            refine wpAnyH_take (i := 8) (v := .int .i64 (j : Nat)) rfl (by kernel_rfl) (by kernel_rfl) (by kernel_rfl) (fun _ _ _ h => h) (Or.inl ⟨by rfl, ?_⟩) hS7 ?_
            · intro Y hY
              skip
              go_simp
            simp only [Act.put, List.getElem_toArray, List.getElem_cons_succ, List.getElem_cons_zero, List.setIfInBounds_toArray, List.set_cons_zero, List.set_cons_succ]
            refine wpAnyH_take (i := 9) (v := .pointer (some ⟨q2, o2 + j * 3, none⟩)) rfl (by kernel_rfl) (by kernel_rfl) (by kernel_rfl) (fun _ _ _ h => h) (Or.inl ⟨by rfl, ?_⟩) hS7 ?_
            · intro Y hY
              skip
              go_simp
            simp only [Act.put, List.getElem_toArray, List.getElem_cons_succ, List.getElem_cons_zero, List.setIfInBounds_toArray, List.set_cons_zero, List.set_cons_succ]
            refine wpAnyH_take (i := 10) (v := .pointer (some ⟨q2, o2 + j * 3, none⟩)) rfl (by kernel_rfl) (by kernel_rfl) (by kernel_rfl) (fun _ _ _ h => h) (Or.inl ⟨by rfl, ?_⟩) hS7 ?_
            · intro Y hY
              skip
              go_simp
            simp only [Act.put, List.getElem_toArray, List.getElem_cons_succ, List.getElem_cons_zero, List.setIfInBounds_toArray, List.set_cons_zero, List.set_cons_succ]
            refine wpAnyH_take (i := 11) (v := .string ⟨ad2.toArray⟩) rfl (by kernel_rfl) (by kernel_rfl) (by kernel_rfl) (fun _ _ _ h => h) (Or.inl ⟨by rfl, ?_⟩) hS7 ?_
            · intro Y hY
              obtain ⟨d0, d1, d2⟩ := HBW.out Y hY
              go_simp
            simp only [Act.put, List.getElem_toArray, List.getElem_cons_succ, List.getElem_cons_zero, List.setIfInBounds_toArray, List.set_cons_zero, List.set_cons_succ]
            refine wpAnyH_take (i := 12) (v := .bool false) rfl (by kernel_rfl) (by kernel_rfl) (by kernel_rfl) (fun _ _ _ h => h) (Or.inl ⟨by rfl, ?_⟩) hS7 ?_
            · intro Y hY
              skip
              go_simp
              first | done | exact HEA.out | exact HED.out
            simp only [Act.put, List.getElem_toArray, List.getElem_cons_succ, List.getElem_cons_zero, List.setIfInBounds_toArray, List.set_cons_zero, List.set_cons_succ]
            refine wpAnyH_take (i := 13) (v := .bool false) rfl (by kernel_rfl) (by kernel_rfl) (by kernel_rfl) (fun _ _ _ h => h) (Or.inl ⟨by rfl, ?_⟩) hS7 ?_
            · intro Y hY
              skip
              go_simp
            simp only [Act.put, List.getElem_toArray, List.getElem_cons_succ, List.getElem_cons_zero, List.setIfInBounds_toArray, List.set_cons_zero, List.set_cons_succ]
            refine wpAnyH_take (i := 14) (v := .pointer (some ⟨h, 3, none⟩)) rfl (by kernel_rfl) (by kernel_rfl) (by kernel_rfl) (fun _ _ _ h => h) (Or.inl ⟨by rfl, ?_⟩) hS7 ?_
            · intro Y hY
              skip
              go_simp
            simp only [Act.put, List.getElem_toArray, List.getElem_cons_succ, List.getElem_cons_zero, List.setIfInBounds_toArray, List.set_cons_zero, List.set_cons_succ]
            refine wpAnyH_take (i := 15) (v := .slice (some ⟨q, o, none⟩) ls.length ca) rfl (by kernel_rfl) (by kernel_rfl) (by kernel_rfl) (fun _ _ _ h => h) (Or.inl ⟨by rfl, ?_⟩) hS7 ?_
            · intro Y hY
              obtain ⟨c0, c1, c2, c3, c4, c5, c6⟩ := HXW.out Y hY
              go_simp
            simp only [Act.put, List.getElem_toArray, List.getElem_cons_succ, List.getElem_cons_zero, List.setIfInBounds_toArray, List.set_cons_zero, List.set_cons_succ]
            refine wpAnyH_take (i := 16) (v := .int .i64 (j : Nat)) rfl (by kernel_rfl) (by kernel_rfl) (by kernel_rfl) (fun _ _ _ h => h) (Or.inl ⟨by rfl, ?_⟩) hS7 ?_
            · intro Y hY
              skip
              go_simp
            simp only [Act.put, List.getElem_toArray, List.getElem_cons_succ, List.getElem_cons_zero, List.setIfInBounds_toArray, List.set_cons_zero, List.set_cons_succ]
            refine wpAnyH_take (i := 17) (v := .pointer (some ⟨q, o + j * 3, none⟩)) rfl (by kernel_rfl) (by kernel_rfl) (by kernel_rfl) (fun _ _ _ h => h) (Or.inl ⟨by rfl, ?_⟩) hS7 ?_
            · intro Y hY
              skip
              go_simp
            simp only [Act.put, List.getElem_toArray, List.getElem_cons_succ, List.getElem_cons_zero, List.setIfInBounds_toArray, List.set_cons_zero, List.set_cons_succ]
            refine wpAnyH_take (i := 18) (v := .pointer (some ⟨q, o + j * 3 + 2, none⟩)) rfl (by kernel_rfl) (by kernel_rfl) (by kernel_rfl) (fun _ _ _ h => h) (Or.inl ⟨by rfl, ?_⟩) hS7 ?_
            · intro Y hY
              skip
              go_simp
            simp only [Act.put, List.getElem_toArray, List.getElem_cons_succ, List.getElem_cons_zero, List.setIfInBounds_toArray, List.set_cons_zero, List.set_cons_succ]
            refine wpAnyH_take (i := 19) (v := .string ⟨dt.toArray⟩) rfl (by kernel_rfl) (by kernel_rfl) (by kernel_rfl) (fun _ _ _ h => h) (Or.inl ⟨by rfl, ?_⟩) hS7 ?_
            · intro Y hY
              obtain ⟨d0, d1, d2⟩ := HAW.out Y hY
              go_simp
            simp only [Act.put, List.getElem_toArray, List.getElem_cons_succ, List.getElem_cons_zero, List.setIfInBounds_toArray, List.set_cons_zero, List.set_cons_succ]
            refine wpAnyH_take (i := 20) (v := .pointer (some ⟨h + 1, 3, none⟩)) rfl (by kernel_rfl) (by kernel_rfl) (by kernel_rfl) (fun _ _ _ h => h) (Or.inl ⟨by rfl, ?_⟩) hS7 ?_
            · intro Y hY
              skip
              go_simp
            simp only [Act.put, List.getElem_toArray, List.getElem_cons_succ, List.getElem_cons_zero, List.setIfInBounds_toArray, List.set_cons_zero, List.set_cons_succ]
            refine wpAnyH_take (i := 21) (v := .slice (some ⟨q2, o2, none⟩) ms.length cb) rfl (by kernel_rfl) (by kernel_rfl) (by kernel_rfl) (fun _ _ _ h => h) (Or.inl ⟨by rfl, ?_⟩) hS7 ?_
            · intro Y hY
              obtain ⟨c0, c1, c2, c3, c4, c5, c6⟩ := HYW.out Y hY
              go_simp
            simp only [Act.put, List.getElem_toArray, List.getElem_cons_succ, List.getElem_cons_zero, List.setIfInBounds_toArray, List.set_cons_zero, List.set_cons_succ]
            refine wpAnyH_take (i := 22) (v := .int .i64 (j : Nat)) rfl (by kernel_rfl) (by kernel_rfl) (by kernel_rfl) (fun _ _ _ h => h) (Or.inl ⟨by rfl, ?_⟩) hS7 ?_
            · intro Y hY
              skip
              go_simp
            simp only [Act.put, List.getElem_toArray, List.getElem_cons_succ, List.getElem_cons_zero, List.setIfInBounds_toArray, List.set_cons_zero, List.set_cons_succ]
            refine wpAnyH_take (i := 23) (v := .pointer (some ⟨q2, o2 + j * 3, none⟩)) rfl (by kernel_rfl) (by kernel_rfl) (by kernel_rfl) (fun _ _ _ h => h) (Or.inl ⟨by rfl, ?_⟩) hS7 ?_
            · intro Y hY
              skip
              go_simp
            simp only [Act.put, List.getElem_toArray, List.getElem_cons_succ, List.getElem_cons_zero, List.setIfInBounds_toArray, List.set_cons_zero, List.set_cons_succ]
            refine wpAnyH_take (i := 24) (v := .pointer (some ⟨q2, o2 + j * 3 + 2, none⟩)) rfl (by kernel_rfl) (by kernel_rfl) (by kernel_rfl) (fun _ _ _ h => h) (Or.inl ⟨by rfl, ?_⟩) hS7 ?_
            · intro Y hY
              skip
              go_simp
            simp only [Act.put, List.getElem_toArray, List.getElem_cons_succ, List.getElem_cons_zero, List.setIfInBounds_toArray, List.set_cons_zero, List.set_cons_succ]
            refine wpAnyH_take (i := 25) (v := .string ⟨dt2.toArray⟩) rfl (by kernel_rfl) (by kernel_rfl) (by kernel_rfl) (fun _ _ _ h => h) (Or.inl ⟨by rfl, ?_⟩) hS7 ?_
            · intro Y hY
              obtain ⟨d0, d1, d2⟩ := HBW.out Y hY
              go_simp
            simp only [Act.put, List.getElem_toArray, List.getElem_cons_succ, List.getElem_cons_zero, List.setIfInBounds_toArray, List.set_cons_zero, List.set_cons_succ]
            refine wpAnyH_take (i := 26) (v := .bool false) rfl (by kernel_rfl) (by kernel_rfl) (by kernel_rfl) (fun _ _ _ h => h) (Or.inl ⟨by rfl, ?_⟩) hS7 ?_
            · intro Y hY
              skip
              go_simp
              first | done | exact HEA.out | exact HED.out
            simp only [Act.put, List.getElem_toArray, List.getElem_cons_succ, List.getElem_cons_zero, List.setIfInBounds_toArray, List.set_cons_zero, List.set_cons_succ]
            refine wpAnyH_take (i := 27) (v := .bool false) rfl (by kernel_rfl) (by kernel_rfl) (by kernel_rfl) (fun _ _ _ h => h) (Or.inl ⟨by rfl, ?_⟩) hS7 ?_
            · intro Y hY
              skip
              go_simp
            simp only [Act.put, List.getElem_toArray, List.getElem_cons_succ, List.getElem_cons_zero, List.setIfInBounds_toArray, List.set_cons_zero, List.set_cons_succ]
            refine wpAnyH_take (i := 28) (v := .bool false) rfl (by kernel_rfl) (by kernel_rfl) (by kernel_rfl) (fun _ _ _ h => h) (Or.inl ⟨by rfl, ?_⟩) hS7 ?_
            · intro Y hY
              skip
              go_simp
            simp only [Act.put, List.getElem_toArray, List.getElem_cons_succ, List.getElem_cons_zero, List.setIfInBounds_toArray, List.set_cons_zero, List.set_cons_succ]
            refine wpAnyH_take (i := 29) (v := .bool false) rfl (by kernel_rfl) (by kernel_rfl) (by kernel_rfl) (fun _ _ _ h => h) (Or.inl ⟨by rfl, ?_⟩) hS7 ?_
            · intro Y hY
              skip
              go_simp
            simp only [Act.put, List.getElem_toArray, List.getElem_cons_succ, List.getElem_cons_zero, List.setIfInBounds_toArray, List.set_cons_zero, List.set_cons_succ]
            refine wpAnyH_take (i := 30) (v := .bool true) rfl (by kernel_rfl) (by kernel_rfl) (by kernel_rfl) (fun _ _ _ h => h) (Or.inl ⟨by rfl, ?_⟩) hS7 ?_
            · intro Y hY
              skip
              go_simp
            simp only [Act.put, List.getElem_toArray, List.getElem_cons_succ, List.getElem_cons_zero, List.setIfInBounds_toArray, List.set_cons_zero, List.set_cons_succ]
            refine wpAnyH_take (i := 31) (v := .bool true) rfl (by kernel_rfl) (by kernel_rfl) (by kernel_rfl) (fun _ _ _ h => h) (Or.inl ⟨by rfl, ?_⟩) hS7 ?_
            · intro Y hY
              skip
              go_simp
            simp only [Act.put, List.getElem_toArray, List.getElem_cons_succ, List.getElem_cons_zero, List.setIfInBounds_toArray, List.set_cons_zero, List.set_cons_succ]
            refine wpAnyH_done (by kernel_rfl) ?_ _
            go_wp2_with fail
            go_ret
            exact ⟨rfl, HB0.out.trans ((HWW.out.trans (hS7.mono HWW.out.size)).mono HB0.out.size)⟩
        · have HEA := Lib.hid ha
          have HED := Lib.hid hd
          have hn : R = false := HNO.out (fun e => by injection e with e1 e2 e3; exact hd e3)
          subst hn
          clear ha hd
          refine wp_region_held (S := Below wr.heap.size wr) mixed ?_
          have hS7 : Below wr.heap.size wr w6.drew := Below.drew hS6
          rw [show Array.replicate (Array.size _) false = #[false, false, false, false, false, false, false, false, false, false, false, false, false, false, false, false, false, false, false, false, false, false, false, false, false, false, false, false, false, false, false, false] from rfl, show Array.size (α := Oper) _ = 32 from rfl]
          refine wpAnyH_take (i := 0) (v := .pointer (some ⟨h, 3, none⟩)) rfl (by kernel_rfl) (by kernel_rfl) (by kernel_rfl) (fun _ _ _ h => h) (Or.inl ⟨by rfl, ?_⟩) hS7 ?_
          · intro Y hY
            skip
            go_simp
          simp only [Act.put, List.getElem_toArray, List.getElem_cons_zero, List.setIfInBounds_toArray, List.set_cons_zero, List.set_cons_succ]
          refine wpAnyH_take (i := 1) (v := .slice (some ⟨q, o, none⟩) ls.length ca) rfl (by kernel_rfl) (by kernel_rfl) (by kernel_rfl) (fun _ _ _ h => h) (Or.inl ⟨by rfl, ?_⟩) hS7 ?_
          · intro Y hY
            obtain ⟨c0, c1, c2, c3, c4, c5, c6⟩ := HXW.out Y hY
            go_simp
          simp only [Act.put, List.getElem_toArray, List.getElem_cons_succ, List.getElem_cons_zero, List.setIfInBounds_toArray, List.set_cons_zero, List.set_cons_succ]
          refine wpAnyH_take (i := 2) (v := .int .i64 (j : Nat)) rfl (by kernel_rfl) (by kernel_rfl) (by kernel_rfl) (fun _ _ _ h => h) (Or.inl ⟨by rfl, ?_⟩) hS7 ?_
          · intro Y hY
            skip
            go_simp
          simp only [Act.put, List.getElem_toArray, List.getElem_cons_succ, List.getElem_cons_zero, List.setIfInBounds_toArray, List.set_cons_zero, List.set_cons_succ]
          refine wpAnyH_take (i := 3) (v := .pointer (some ⟨q, o + j * 3, none⟩)) rfl (by kernel_rfl) (by kernel_rfl) (by kernel_rfl) (fun _ _ _ h => h) (Or.inl ⟨by rfl, ?_⟩) hS7 ?_
          · intro Y hY
            skip
            go_simp
          simp only [Act.put, List.getElem_toArray, List.getElem_cons_succ, List.getElem_cons_zero, List.setIfInBounds_toArray, List.set_cons_zero, List.set_cons_succ]
          refine wpAnyH_take (i := 4) (v := .pointer (some ⟨q, o + j * 3, none⟩)) rfl (by kernel_rfl) (by kernel_rfl) (by kernel_rfl) (fun _ _ _ h => h) (Or.inl ⟨by rfl, ?_⟩) hS7 ?_
          · intro Y hY
            skip
            go_simp
          simp only [Act.put, List.getElem_toArray, List.getElem_cons_succ, List.getElem_cons_zero, List.setIfInBounds_toArray, List.set_cons_zero, List.set_cons_succ]
          refine wpAnyH_take (i := 5) (v := .string ⟨ad.toArray⟩) rfl (by kernel_rfl) (by kernel_rfl) (by kernel_rfl) (fun _ _ _ h => h) (Or.inl ⟨by rfl, ?_⟩) hS7 ?_
          · intro Y hY
            obtain ⟨d0, d1, d2⟩ := HAW.out Y hY
            go_simp
          simp only [Act.put, List.getElem_toArray, List.getElem_cons_succ, List.getElem_cons_zero, List.setIfInBounds_toArray, List.set_cons_zero, List.set_cons_succ]
          refine wpAnyH_take (i := 6) (v := .pointer (some ⟨h + 1, 3, none⟩)) rfl (by kernel_rfl) (by kernel_rfl) (by kernel_rfl) (fun _ _ _ h => h) (Or.inl ⟨by rfl, ?_⟩) hS7 ?_
          · intro Y hY
            skip
            go_simp
          simp only [Act.put, List.getElem_toArray, List.getElem_cons_succ, List.getElem_cons_zero, List.setIfInBounds_toArray, List.set_cons_zero, List.set_cons_succ]
          refine wpAnyH_take (i := 7) (v := .slice (some ⟨q2, o2, none⟩) ms.length cb) rfl (by kernel_rfl) (by kernel_rfl) (by kernel_rfl) (fun _ _ _ h => h) (Or.inl ⟨by rfl, ?_⟩) hS7 ?_
          · intro Y hY
            obtain ⟨c0, c1, c2, c3, c4, c5, c6⟩ := HYW.out Y hY
            go_simp
          simp only [Act.put, List.getElem_toArray, List.getElem_cons_succ, List.getElem_cons_zero, List.setIfInBounds_toArray, List.set_cons_zero, List.set_cons_succ]
          refine wpAnyH_take (i := 8) (v := .int .i64 (j : Nat)) rfl (by kernel_rfl) (by kernel_rfl) (by kernel_rfl) (fun _ _ _ h => h) (Or.inl ⟨by rfl, ?_⟩) hS7 ?_
          · intro Y hY
            skip
            go_simp
          simp only [Act.put, List.getElem_toArray, List.getElem_cons_succ, List.getElem_cons_zero, List.setIfInBounds_toArray, List.set_cons_zero, List.set_cons_succ]
          refine wpAnyH_take (i := 9) (v := .pointer (some ⟨q2, o2 + j * 3, none⟩)) rfl (by kernel_rfl) (by kernel_rfl) (by kernel_rfl) (fun _ _ _ h => h) (Or.inl ⟨by rfl, ?_⟩) hS7 ?_
          · intro Y hY
            skip
            go_simp
          simp only [Act.put, List.getElem_toArray, List.getElem_cons_succ, List.getElem_cons_zero, List.setIfInBounds_toArray, List.set_cons_zero, List.set_cons_succ]
          refine wpAnyH_take (i := 10) (v := .pointer (some ⟨q2, o2 + j * 3, none⟩)) rfl (by kernel_rfl) (by kernel_rfl) (by kernel_rfl) (fun _ _ _ h => h) (Or.inl ⟨by rfl, ?_⟩) hS7 ?_
          · intro Y hY
            skip
            go_simp
          simp only [Act.put, List.getElem_toArray, List.getElem_cons_succ, List.getElem_cons_zero, List.setIfInBounds_toArray, List.set_cons_zero, List.set_cons_succ]
          refine wpAnyH_take (i := 11) (v := .string ⟨ad2.toArray⟩) rfl (by kernel_rfl) (by kernel_rfl) (by kernel_rfl) (fun _ _ _ h => h) (Or.inl ⟨by rfl, ?_⟩) hS7 ?_
          · intro Y hY
            obtain ⟨d0, d1, d2⟩ := HBW.out Y hY
            go_simp
          simp only [Act.put, List.getElem_toArray, List.getElem_cons_succ, List.getElem_cons_zero, List.setIfInBounds_toArray, List.set_cons_zero, List.set_cons_succ]
          refine wpAnyH_take (i := 12) (v := .bool false) rfl (by kernel_rfl) (by kernel_rfl) (by kernel_rfl) (fun _ _ _ h => h) (Or.inl ⟨by rfl, ?_⟩) hS7 ?_
          · intro Y hY
            skip
            go_simp
            first | done | exact HEA.out | exact HED.out
          simp only [Act.put, List.getElem_toArray, List.getElem_cons_succ, List.getElem_cons_zero, List.setIfInBounds_toArray, List.set_cons_zero, List.set_cons_succ]
          refine wpAnyH_take (i := 13) (v := .bool false) rfl (by kernel_rfl) (by kernel_rfl) (by kernel_rfl) (fun _ _ _ h => h) (Or.inl ⟨by rfl, ?_⟩) hS7 ?_
          · intro Y hY
            skip
            go_simp
          simp only [Act.put, List.getElem_toArray, List.getElem_cons_succ, List.getElem_cons_zero, List.setIfInBounds_toArray, List.set_cons_zero, List.set_cons_succ]
          refine wpAnyH_take (i := 14) (v := .pointer (some ⟨h, 3, none⟩)) rfl (by kernel_rfl) (by kernel_rfl) (by kernel_rfl) (fun _ _ _ h => h) (Or.inl ⟨by rfl, ?_⟩) hS7 ?_
          · intro Y hY
            skip
            go_simp
          simp only [Act.put, List.getElem_toArray, List.getElem_cons_succ, List.getElem_cons_zero, List.setIfInBounds_toArray, List.set_cons_zero, List.set_cons_succ]
          refine wpAnyH_take (i := 15) (v := .slice (some ⟨q, o, none⟩) ls.length ca) rfl (by kernel_rfl) (by kernel_rfl) (by kernel_rfl) (fun _ _ _ h => h) (Or.inl ⟨by rfl, ?_⟩) hS7 ?_
          · intro Y hY
            obtain ⟨c0, c1, c2, c3, c4, c5, c6⟩ := HXW.out Y hY
            go_simp
          simp only [Act.put, List.getElem_toArray, List.getElem_cons_succ, List.getElem_cons_zero, List.setIfInBounds_toArray, List.set_cons_zero, List.set_cons_succ]
          refine wpAnyH_take (i := 16) (v := .int .i64 (j : Nat)) rfl (by kernel_rfl) (by kernel_rfl) (by kernel_rfl) (fun _ _ _ h => h) (Or.inl ⟨by rfl, ?_⟩) hS7 ?_
          · intro Y hY
            skip
            go_simp
          simp only [Act.put, List.getElem_toArray, List.getElem_cons_succ, List.getElem_cons_zero, List.setIfInBounds_toArray, List.set_cons_zero, List.set_cons_succ]
          refine wpAnyH_take (i := 17) (v := .pointer (some ⟨q, o + j * 3, none⟩)) rfl (by kernel_rfl) (by kernel_rfl) (by kernel_rfl) (fun _ _ _ h => h) (Or.inl ⟨by rfl, ?_⟩) hS7 ?_
          · intro Y hY
            skip
            go_simp
          simp only [Act.put, List.getElem_toArray, List.getElem_cons_succ, List.getElem_cons_zero, List.setIfInBounds_toArray, List.set_cons_zero, List.set_cons_succ]
          refine wpAnyH_take (i := 18) (v := .pointer (some ⟨q, o + j * 3 + 2, none⟩)) rfl (by kernel_rfl) (by kernel_rfl) (by kernel_rfl) (fun _ _ _ h => h) (Or.inl ⟨by rfl, ?_⟩) hS7 ?_
          · intro Y hY
            skip
            go_simp
          simp only [Act.put, List.getElem_toArray, List.getElem_cons_succ, List.getElem_cons_zero, List.setIfInBounds_toArray, List.set_cons_zero, List.set_cons_succ]
          refine wpAnyH_take (i := 19) (v := .string ⟨dt.toArray⟩) rfl (by kernel_rfl) (by kernel_rfl) (by kernel_rfl) (fun _ _ _ h => h) (Or.inl ⟨by rfl, ?_⟩) hS7 ?_
          · intro Y hY
            obtain ⟨d0, d1, d2⟩ := HAW.out Y hY
            go_simp
          simp only [Act.put, List.getElem_toArray, List.getElem_cons_succ, List.getElem_cons_zero, List.setIfInBounds_toArray, List.set_cons_zero, List.set_cons_succ]
          refine wpAnyH_take (i := 20) (v := .pointer (some ⟨h + 1, 3, none⟩)) rfl (by kernel_rfl) (by kernel_rfl) (by kernel_rfl) (fun _ _ _ h => h) (Or.inl ⟨by rfl, ?_⟩) hS7 ?_
          · intro Y hY
            skip
            go_simp
          simp only [Act.put, List.getElem_toArray, List.getElem_cons_succ, List.getElem_cons_zero, List.setIfInBounds_toArray, List.set_cons_zero, List.set_cons_succ]
          refine wpAnyH_take (i := 21) (v := .slice (some ⟨q2, o2, none⟩) ms.length cb) rfl (by kernel_rfl) (by kernel_rfl) (by kernel_rfl) (fun _ _ _ h => h) (Or.inl ⟨by rfl, ?_⟩) hS7 ?_
          · intro Y hY
            obtain ⟨c0, c1, c2, c3, c4, c5, c6⟩ := HYW.out Y hY
            go_simp
          simp only [Act.put, List.getElem_toArray, List.getElem_cons_succ, List.getElem_cons_zero, List.setIfInBounds_toArray, List.set_cons_zero, List.set_cons_succ]
          refine wpAnyH_take (i := 22) (v := .int .i64 (j : Nat)) rfl (by kernel_rfl) (by kernel_rfl) (by kernel_rfl) (fun _ _ _ h => h) (Or.inl ⟨by rfl, ?_⟩) hS7 ?_
          · intro Y hY
            skip
            go_simp
          simp only [Act.put, List.getElem_toArray, List.getElem_cons_succ, List.getElem_cons_zero, List.setIfInBounds_toArray, List.set_cons_zero, List.set_cons_succ]
          refine wpAnyH_take (i := 23) (v := .pointer (some ⟨q2, o2 + j * 3, none⟩)) rfl (by kernel_rfl) (by kernel_rfl) (by kernel_rfl) (fun _ _ _ h => h) (Or.inl ⟨by rfl, ?_⟩) hS7 ?_
          · intro Y hY
            skip
            go_simp
          simp only [Act.put, List.getElem_toArray, List.getElem_cons_succ, List.getElem_cons_zero, List.setIfInBounds_toArray, List.set_cons_zero, List.set_cons_succ]
          refine wpAnyH_take (i := 24) (v := .pointer (some ⟨q2, o2 + j * 3 + 2, none⟩)) rfl (by kernel_rfl) (by kernel_rfl) (by kernel_rfl) (fun _ _ _ h => h) (Or.inl ⟨by rfl, ?_⟩) hS7 ?_
          · intro Y hY
            skip
            go_simp
          simp only [Act.put, List.getElem_toArray, List.getElem_cons_succ, List.getElem_cons_zero, List.setIfInBounds_toArray, List.set_cons_zero, List.set_cons_succ]
          refine wpAnyH_take (i := 25) (v := .string ⟨dt2.toArray⟩) rfl (by kernel_rfl) (by kernel_rfl) (by kernel_rfl) (fun _ _ _ h => h) (Or.inl ⟨by rfl, ?_⟩) hS7 ?_
          · intro Y hY
            obtain ⟨d0, d1, d2⟩ := HBW.out Y hY
            go_simp
          simp only [Act.put, List.getElem_toArray, List.getElem_cons_succ, List.getElem_cons_zero, List.setIfInBounds_toArray, List.set_cons_zero, List.set_cons_succ]
          refine wpAnyH_take (i := 26) (v := .bool true) rfl (by kernel_rfl) (by kernel_rfl) (by kernel_rfl) (fun _ _ _ h => h) (Or.inl ⟨by rfl, ?_⟩) hS7 ?_
          · intro Y hY
            skip
            go_simp
            first | done | exact HEA.out | exact HED.out
          simp only [Act.put, List.getElem_toArray, List.getElem_cons_succ, List.getElem_cons_zero, List.setIfInBounds_toArray, List.set_cons_zero, List.set_cons_succ]
          refine wpAnyH_take (i := 27) (v := .bool true) rfl (by kernel_rfl) (by kernel_rfl) (by kernel_rfl) (fun _ _ _ h => h) (Or.inl ⟨by rfl, ?_⟩) hS7 ?_
          · intro Y hY
            skip
            go_simp
          simp only [Act.put, List.getElem_toArray, List.getElem_cons_succ, List.getElem_cons_zero, List.setIfInBounds_toArray, List.set_cons_zero, List.set_cons_succ]
          refine wpAnyH_take (i := 28) (v := .bool true) rfl (by kernel_rfl) (by kernel_rfl) (by kernel_rfl) (fun _ _ _ h => h) (Or.inl ⟨by rfl, ?_⟩) hS7 ?_
          · intro Y hY
            skip
            go_simp
          simp only [Act.put, List.getElem_toArray, List.getElem_cons_succ, List.getElem_cons_zero, List.setIfInBounds_toArray, List.set_cons_zero, List.set_cons_succ]
          refine wpAnyH_take (i := 29) (v := undef) rfl (by kernel_rfl) (by kernel_rfl) (by kernel_rfl) (fun _ _ _ h => h) (Or.inr ⟨by rfl, rfl⟩) hS7 ?_
          simp only [Act.put, List.getElem_toArray, List.getElem_cons_succ, List.getElem_cons_zero, List.setIfInBounds_toArray, List.set_cons_zero, List.set_cons_succ]
          refine wpAnyH_take (i := 30) (v := undef) rfl (by kernel_rfl) (by kernel_rfl) (by kernel_rfl) (fun _ _ _ h => h) (Or.inr ⟨by rfl, rfl⟩) hS7 ?_
          simp only [Act.put, List.getElem_toArray, List.getElem_cons_succ, List.getElem_cons_zero, List.setIfInBounds_toArray, List.set_cons_zero, List.set_cons_succ]
          refine wpAnyH_take (i := 31) (v := .bool true) rfl (by kernel_rfl) (by kernel_rfl) (by kernel_rfl) (fun _ _ _ h => h) (Or.inl ⟨by rfl, ?_⟩) hS7 ?_
          · intro Y hY
            skip
            go_simp
          simp only [Act.put, List.getElem_toArray, List.getElem_cons_succ, List.getElem_cons_zero, List.setIfInBounds_toArray, List.set_cons_zero, List.set_cons_succ]
          refine wpAnyH_done (by kernel_rfl) ?_ _
          go_wp2_with fail
          go_ret
          exact ⟨rfl, HB0.out.trans ((HWW.out.trans (hS7.mono HWW.out.size)).mono HB0.out.size)⟩
      · have HEA := Lib.hid ha
        have HED := Lib.hid ha
        have hn : R = false := HNO.out (fun e => by injection e with e1 e2 e3; exact ha e1)
        subst hn
        clear ha
        refine wp_region_held (S := Below wr.heap.size wr) mixed ?_
        have hS7 : Below wr.heap.size wr w6.drew := Below.drew hS6
        rw [show Array.replicate (Array.size _) false = #[false, false, false, false, false, false, false, false, false, false, false, false, false, false, false, false, false, false, false, false, false, false, false, false, false, false, false, false, false, false, false, false] from rfl, show Array.size (α := Oper) _ = 32 from rfl]
        refine wpAnyH_take (i := 0) (v := .pointer (some ⟨h, 3, none⟩)) rfl (by kernel_rfl) (by kernel_rfl) (by kernel_rfl) (fun _ _ _ h => h) (Or.inl ⟨by rfl, ?_⟩) hS7 ?_
        · intro Y hY
          skip
          go_simp
        simp only [Act.put, List.getElem_toArray, List.getElem_cons_zero, List.setIfInBounds_toArray, List.set_cons_zero, List.set_cons_succ]
        refine wpAnyH_take (i := 1) (v := .slice (some ⟨q, o, none⟩) ls.length ca) rfl (by kernel_rfl) (by kernel_rfl) (by kernel_rfl) (fun _ _ _ h => h) (Or.inl ⟨by rfl, ?_⟩) hS7 ?_
        · intro Y hY
          obtain ⟨c0, c1, c2, c3, c4, c5, c6⟩ := HXW.out Y hY
          go_simp
        simp only [Act.put, List.getElem_toArray, List.getElem_cons_succ, List.getElem_cons_zero, List.setIfInBounds_toArray, List.set_cons_zero, List.set_cons_succ]
        refine wpAnyH_take (i := 2) (v := .int .i64 (j : Nat)) rfl (by kernel_rfl) (by kernel_rfl) (by kernel_rfl) (fun _ _ _ h => h) (Or.inl ⟨by rfl, ?_⟩) hS7 ?_
        · intro Y hY
          skip
          go_simp
        simp only [Act.put, List.getElem_toArray, List.getElem_cons_succ, List.getElem_cons_zero, List.setIfInBounds_toArray, List.set_cons_zero, List.set_cons_succ]
        refine wpAnyH_take (i := 3) (v := .pointer (some ⟨q, o + j * 3, none⟩)) rfl (by kernel_rfl) (by kernel_rfl) (by kernel_rfl) (fun _ _ _ h => h) (Or.inl ⟨by rfl, ?_⟩) hS7 ?_
        · intro Y hY
          skip
          go_simp
        simp only [Act.put, List.getElem_toArray, List.getElem_cons_succ, List.getElem_cons_zero, List.setIfInBounds_toArray, List.set_cons_zero, List.set_cons_succ]
        refine wpAnyH_take (i := 4) (v := .pointer (some ⟨q, o + j * 3, none⟩)) rfl (by kernel_rfl) (by kernel_rfl) (by kernel_rfl) (fun _ _ _ h => h) (Or.inl ⟨by rfl, ?_⟩) hS7 ?_
        · intro Y hY
          skip
          go_simp
        simp only [Act.put, List.getElem_toArray, List.getElem_cons_succ, List.getElem_cons_zero, List.setIfInBounds_toArray, List.set_cons_zero, List.set_cons_succ]
        refine wpAnyH_take (i := 5) (v := .string ⟨ad.toArray⟩) rfl (by kernel_rfl) (by kernel_rfl) (by kernel_rfl) (fun _ _ _ h => h) (Or.inl ⟨by rfl, ?_⟩) hS7 ?_
        · intro Y hY
          obtain ⟨d0, d1, d2⟩ := HAW.out Y hY
          go_simp
        simp only [Act.put, List.getElem_toArray, List.getElem_cons_succ, List.getElem_cons_zero, List.setIfInBounds_toArray, List.set_cons_zero, List.set_cons_succ]
        refine wpAnyH_take (i := 6) (v := .pointer (some ⟨h + 1, 3, none⟩)) rfl (by kernel_rfl) (by kernel_rfl) (by kernel_rfl) (fun _ _ _ h => h) (Or.inl ⟨by rfl, ?_⟩) hS7 ?_
        · intro Y hY
          skip
          go_simp
        simp only [Act.put, List.getElem_toArray, List.getElem_cons_succ, List.getElem_cons_zero, List.setIfInBounds_toArray, List.set_cons_zero, List.set_cons_succ]
        refine wpAnyH_take (i := 7) (v := .slice (some ⟨q2, o2, none⟩) ms.length cb) rfl (by kernel_rfl) (by kernel_rfl) (by kernel_rfl) (fun _ _ _ h => h) (Or.inl ⟨by rfl, ?_⟩) hS7 ?_
        · intro Y hY
          obtain ⟨c0, c1, c2, c3, c4, c5, c6⟩ := HYW.out Y hY
          go_simp
        simp only [Act.put, List.getElem_toArray, List.getElem_cons_succ, List.getElem_cons_zero, List.setIfInBounds_toArray, List.set_cons_zero, List.set_cons_succ]
        refine wpAnyH_take (i := 8) (v := .int .i64 (j : Nat)) rfl (by kernel_rfl) (by kernel_rfl) (by kernel_rfl) (fun _ _ _ h => h) (Or.inl ⟨by rfl, ?_⟩) hS7 ?_
        · intro Y hY
          skip
          go_simp
        simp only [Act.put, List.getElem_toArray, List.getElem_cons_succ, List.getElem_cons_zero, List.setIfInBounds_toArray, List.set_cons_zero, List.set_cons_succ]
        refine wpAnyH_take (i := 9) (v := .pointer (some ⟨q2, o2 + j * 3, none⟩)) rfl (by kernel_rfl) (by kernel_rfl) (by kernel_rfl) (fun _ _ _ h => h) (Or.inl ⟨by rfl, ?_⟩) hS7 ?_
        · intro Y hY
          skip
          go_simp
        simp only [Act.put, List.getElem_toArray, List.getElem_cons_succ, List.getElem_cons_zero, List.setIfInBounds_toArray, List.set_cons_zero, List.set_cons_succ]
        refine wpAnyH_take (i := 10) (v := .pointer (some ⟨q2, o2 + j * 3, none⟩)) rfl (by kernel_rfl) (by kernel_rfl) (by kernel_rfl) (fun _ _ _ h => h) (Or.inl ⟨by rfl, ?_⟩) hS7 ?_
        · intro Y hY
          skip
          go_simp
        simp only [Act.put, List.getElem_toArray, List.getElem_cons_succ, List.getElem_cons_zero, List.setIfInBounds_toArray, List.set_cons_zero, List.set_cons_succ]
        refine wpAnyH_take (i := 11) (v := .string ⟨ad2.toArray⟩) rfl (by kernel_rfl) (by kernel_rfl) (by kernel_rfl) (fun _ _ _ h => h) (Or.inl ⟨by rfl, ?_⟩) hS7 ?_
        · intro Y hY
          obtain ⟨d0, d1, d2⟩ := HBW.out Y hY
          go_simp
        simp only [Act.put, List.getElem_toArray, List.getElem_cons_succ, List.getElem_cons_zero, List.setIfInBounds_toArray, List.set_cons_zero, List.set_cons_succ]
        refine wpAnyH_take (i := 12) (v := .bool true) rfl (by kernel_rfl) (by kernel_rfl) (by kernel_rfl) (fun _ _ _ h => h) (Or.inl ⟨by rfl, ?_⟩) hS7 ?_
        · intro Y hY
          skip
          go_simp
          first | done | exact HEA.out | exact HED.out
        simp only [Act.put, List.getElem_toArray, List.getElem_cons_succ, List.getElem_cons_zero, List.setIfInBounds_toArray, List.set_cons_zero, List.set_cons_succ]
        refine wpAnyH_take (i := 13) (v := .bool true) rfl (by kernel_rfl) (by kernel_rfl) (by kernel_rfl) (fun _ _ _ h => h) (Or.inl ⟨by rfl, ?_⟩) hS7 ?_
        · intro Y hY
          skip
          go_simp
        simp only [Act.put, List.getElem_toArray, List.getElem_cons_succ, List.getElem_cons_zero, List.setIfInBounds_toArray, List.set_cons_zero, List.set_cons_succ]
        refine wpAnyH_take (i := 14) (v := undef) rfl (by kernel_rfl) (by kernel_rfl) (by kernel_rfl) (fun _ _ _ h => h) (Or.inr ⟨by rfl, rfl⟩) hS7 ?_
        simp only [Act.put, List.getElem_toArray, List.getElem_cons_succ, List.getElem_cons_zero, List.setIfInBounds_toArray, List.set_cons_zero, List.set_cons_succ]
        refine wpAnyH_take (i := 15) (v := undef) rfl (by kernel_rfl) (by kernel_rfl) (by kernel_rfl) (fun _ _ _ h => h) (Or.inr ⟨by rfl, rfl⟩) hS7 ?_
        simp only [Act.put, List.getElem_toArray, List.getElem_cons_succ, List.getElem_cons_zero, List.setIfInBounds_toArray, List.set_cons_zero, List.set_cons_succ]
        refine wpAnyH_take (i := 16) (v := undef) rfl (by kernel_rfl) (by kernel_rfl) (by kernel_rfl) (fun _ _ _ h => h) (Or.inr ⟨by rfl, rfl⟩) hS7 ?_
        simp only [Act.put, List.getElem_toArray, List.getElem_cons_succ, List.getElem_cons_zero, List.setIfInBounds_toArray, List.set_cons_zero, List.set_cons_succ]
        refine wpAnyH_take (i := 17) (v := undef) rfl (by kernel_rfl) (by kernel_rfl) (by kernel_rfl) (fun _ _ _ h => h) (Or.inr ⟨by rfl, rfl⟩) hS7 ?_
        simp only [Act.put, List.getElem_toArray, List.getElem_cons_succ, List.getElem_cons_zero, List.setIfInBounds_toArray, List.set_cons_zero, List.set_cons_succ]
        refine wpAnyH_take (i := 18) (v := undef) rfl (by kernel_rfl) (by kernel_rfl) (by kernel_rfl) (fun _ _ _ h => h) (Or.inr ⟨by rfl, rfl⟩) hS7 ?_
        simp only [Act.put, List.getElem_toArray, List.getElem_cons_succ, List.getElem_cons_zero, List.setIfInBounds_toArray, List.set_cons_zero, List.set_cons_succ]
        refine wpAnyH_take (i := 19) (v := undef) rfl (by kernel_rfl) (by kernel_rfl) (by kernel_rfl) (fun _ _ _ h => h) (Or.inr ⟨by rfl, rfl⟩) hS7 ?_
        simp only [Act.put, List.getElem_toArray, List.getElem_cons_succ, List.getElem_cons_zero, List.setIfInBounds_toArray, List.set_cons_zero, List.set_cons_succ]
        refine wpAnyH_take (i := 20) (v := undef) rfl (by kernel_rfl) (by kernel_rfl) (by kernel_rfl) (fun _ _ _ h => h) (Or.inr ⟨by rfl, rfl⟩) hS7 ?_
        simp only [Act.put, List.getElem_toArray, List.getElem_cons_succ, List.getElem_cons_zero, List.setIfInBounds_toArray, List.set_cons_zero, List.set_cons_succ]
        refine wpAnyH_take (i := 21) (v := undef) rfl (by kernel_rfl) (by kernel_rfl) (by kernel_rfl) (fun _ _ _ h => h) (Or.inr ⟨by rfl, rfl⟩) hS7 ?_
        simp only [Act.put, List.getElem_toArray, List.getElem_cons_succ, List.getElem_cons_zero, List.setIfInBounds_toArray, List.set_cons_zero, List.set_cons_succ]
        refine wpAnyH_take (i := 22) (v := undef) rfl (by kernel_rfl) (by kernel_rfl) (by kernel_rfl) (fun _ _ _ h => h) (Or.inr ⟨by rfl, rfl⟩) hS7 ?_
        simp only [Act.put, List.getElem_toArray, List.getElem_cons_succ, List.getElem_cons_zero, List.setIfInBounds_toArray, List.set_cons_zero, List.set_cons_succ]
        refine wpAnyH_take (i := 23) (v := undef) rfl (by kernel_rfl) (by kernel_rfl) (by kernel_rfl) (fun _ _ _ h => h) (Or.inr ⟨by rfl, rfl⟩) hS7 ?_
        simp only [Act.put, List.getElem_toArray, List.getElem_cons_succ, List.getElem_cons_zero, List.setIfInBounds_toArray, List.set_cons_zero, List.set_cons_succ]
        refine wpAnyH_take (i := 24) (v := undef) rfl (by kernel_rfl) (by kernel_rfl) (by kernel_rfl) (fun _ _ _ h => h) (Or.inr ⟨by rfl, rfl⟩) hS7 ?_
        simp only [Act.put, List.getElem_toArray, List.getElem_cons_succ, List.getElem_cons_zero, List.setIfInBounds_toArray, List.set_cons_zero, List.set_cons_succ]
        refine wpAnyH_take (i := 25) (v := undef) rfl (by kernel_rfl) (by kernel_rfl) (by kernel_rfl) (fun _ _ _ h => h) (Or.inr ⟨by rfl, rfl⟩) hS7 ?_
        simp only [Act.put, List.getElem_toArray, List.getElem_cons_succ, List.getElem_cons_zero, List.setIfInBounds_toArray, List.set_cons_zero, List.set_cons_succ]
        refine wpAnyH_take (i := 26) (v := undef) rfl (by kernel_rfl) (by kernel_rfl) (by kernel_rfl) (fun _ _ _ h => h) (Or.inr ⟨by rfl, rfl⟩) hS7 ?_
        simp only [Act.put, List.getElem_toArray, List.getElem_cons_succ, List.getElem_cons_zero, List.setIfInBounds_toArray, List.set_cons_zero, List.set_cons_succ]
        refine wpAnyH_take (i := 27) (v := .bool true) rfl (by kernel_rfl) (by kernel_rfl) (by kernel_rfl) (fun _ _ _ h => h) (Or.inl ⟨by rfl, ?_⟩) hS7 ?_
        · intro Y hY
          skip
          go_simp
        simp only [Act.put, List.getElem_toArray, List.getElem_cons_succ, List.getElem_cons_zero, List.setIfInBounds_toArray, List.set_cons_zero, List.set_cons_succ]
        refine wpAnyH_take (i := 28) (v := .bool true) rfl (by kernel_rfl) (by kernel_rfl) (by kernel_rfl) (fun _ _ _ h => h) (Or.inl ⟨by rfl, ?_⟩) hS7 ?_
        · intro Y hY
          skip
          go_simp
        simp only [Act.put, List.getElem_toArray, List.getElem_cons_succ, List.getElem_cons_zero, List.setIfInBounds_toArray, List.set_cons_zero, List.set_cons_succ]
        refine wpAnyH_take (i := 29) (v := undef) rfl (by kernel_rfl) (by kernel_rfl) (by kernel_rfl) (fun _ _ _ h => h) (Or.inr ⟨by rfl, rfl⟩) hS7 ?_
        simp only [Act.put, List.getElem_toArray, List.getElem_cons_succ, List.getElem_cons_zero, List.setIfInBounds_toArray, List.set_cons_zero, List.set_cons_succ]
        refine wpAnyH_take (i := 30) (v := undef) rfl (by kernel_rfl) (by kernel_rfl) (by kernel_rfl) (fun _ _ _ h => h) (Or.inr ⟨by rfl, rfl⟩) hS7 ?_
        simp only [Act.put, List.getElem_toArray, List.getElem_cons_succ, List.getElem_cons_zero, List.setIfInBounds_toArray, List.set_cons_zero, List.set_cons_succ]
        refine wpAnyH_take (i := 31) (v := .bool true) rfl (by kernel_rfl) (by kernel_rfl) (by kernel_rfl) (fun _ _ _ h => h) (Or.inl ⟨by rfl, ?_⟩) hS7 ?_
        · intro Y hY
          skip
          go_simp
        simp only [Act.put, List.getElem_toArray, List.getElem_cons_succ, List.getElem_cons_zero, List.setIfInBounds_toArray, List.set_cons_zero, List.set_cons_succ]
        refine wpAnyH_done (by kernel_rfl) ?_ _
        go_wp2_with fail
        go_ret
        exact ⟨rfl, HB0.out.trans ((HWW.out.trans (hS7.mono HWW.out.size)).mono HB0.out.size)⟩
    · obtain rfl : j = ls.length := by omega
      have hls : ls = ms := by
        have := hq
        rw [List.take_length, HLEN.out, List.take_length] at this
        exact this
      have hn : R = true := by
        rw [← HR.out]
        exact M.sameR_iff.2 (by rw [hls])
      subst hn
      clear hls hq
      go_wp2_with fail
      go_ret
      exact ⟨rfl, HB0.out.trans (hW.mono HB0.out.size)⟩
end Go.Proofs.YtcbggjdpjjdfmaaGreatDoor
namespace Go.Proofs.YtcbggjdpjjdfmaaGreatDoor
open Go Go.RowKit

theorem wp_append_runG {P : Program} {o : Oper} {a : Act} {w w' : World} {K : Act → World → Prop} {Q : Exit → Act → World → Prop} (s x : Operand) (ats : Array TypeId) (ho : o.op = .call { callee := .builtin .append, args := #[s, x], argTypes := ats })
    (v u v' : Value) (hs : a.eval s = v) (hx : a.eval x = u) (hr : (Builtin.append_ ats o.type #[v, u]).run P w = .ok v' w') (h : K (a.put o.dst v') w') : o.wp P a w K Q := by
  unfold Oper.wp execOp
  simp only [ho, resolve, invoke, builtin, Sem.run_bind, Sem.run_pure, Result.andThen_ok, List.map_toArray, List.map_cons, List.map_nil, hs, hx, hr]
  exact h

/-- What the rounds keep: the item's box, and the row that its list is. -/
structure TB (B g : Nat) (W0 W : World) (L : List (M.It × Value)) (v : Value) : Prop where
  box : W.heap[g]? = some (.cells #[.bool true, .string ⟨#[]⟩, v] 44 (0, 0))
  row : ItRow B W L v
  below : Below g W0 W

theorem TB.kept {B g : Nat} {W0 W W' : World} {L : List (M.It × Value)} {v : Value} (h : TB B g W0 W L v) (hg : g < W.heap.size) (_hB : B ≤ W.heap.size) (hb : Below W.heap.size W W') : TB B g W0 W' L v :=
  ⟨(hb.block g hg).trans h.box, h.row.from_ hb, h.below.trans (hb.mono (by omega))⟩
theorem TB.cell {B g : Nat} {W0 W : World} {L : List (M.It × Value)} {v : Value} (h : TB B g W0 W L v) : W.cell? ⟨g, 2, none⟩ = some v := by simp [World.cell?, h.box]

/-- A row of bytes, each an item. -/
def tl (ls : List (List UInt8)) : List (M.It × Value) := ls.map fun s => (M.textI s, .slice none 0 0)

set_option maxRecDepth 100000 in
set_option maxHeartbeats 8000000 in
theorem texts_reg2 (g b o B k m tb : Nat) (W0 X : World) (L : List (M.It × Value)) (v t0 t1 t2 t5 t6 t7 t8 t9 t10 t11 t12 t14 t15 t16 t17 t18 t20 t21 t22 : Value) (s : List UInt8) (ops : Array Oper)
    (hcode : Tryz.f89.body.bind (regAt 5) = some (.region 5 ops true)) (hT : TB B g W0 X L v) (hg : g < B) (hB : B ≤ X.heap.size) (hlen : L.length ≤ 600) (hbg : b < g) (hm : m ≤ X.heap.size)
    (hc : (fun w : World => w.cell? ⟨b, o + k, none⟩ = some (.string ⟨s.toArray⟩)) X) (htb : ∀ j x, ([.bool false, .string ⟨s.toArray⟩, .slice none 0 0] : List Value)[j]? = some x → X.cell? ((⟨tb, 0, none⟩ : Addr).add j) = some x) :
    wpAnyH Tryz.prog .any ops (nrm fun a' U => ∃ v' z12 z13 z14 z15 z16 z17 z18 z19 z20 z21, a' = { tmps := #[t0, t1, t2, .pointer (some ⟨g, 0, none⟩), .int .i64 k, t5, t6, t7, t8, t9, t10, t11, z12, z13, z14, z15, z16, z17, z18, z19, z20, z21, t22], defers := [] } ∧ TB B g W0 U (L ++ [(M.textI s, .slice none 0 0)]) v' ∧ m ≤ U.heap.size) (fun w : World => w.cell? ⟨b, o + k, none⟩ = some (.string ⟨s.toArray⟩)) 3 #[true, true, true, true, true, true, true, true, false, false, false] { tmps := #[t0, t1, t2, .pointer (some ⟨g, 0, none⟩), .int .i64 k, t5, t6, t7, t8, t9, t10, t11, t12, v, t14, t15, t16, t17, t18, .slice (some ⟨tb, 0, none⟩) 1 1, t20, t21, t22], defers := [] } X := by
  obtain ⟨v', X3, hr, hrow3, hgr, hnew⟩ := item_append hT.row hB (by omega) 42 ⟨tb, 0, none⟩ 1 false s [] (.slice none 0 0) htb rfl (.nil_ (by decide))
  obtain ⟨va, nn, vc, rfl⟩ : ∃ a n c, v' = .slice a n c := by obtain ⟨a, c, h⟩ := hrow3.slice; exact ⟨a, _, c, h⟩
  have hgX : g < X.heap.size := by omega
  have ownge : ∀ q, q < B → some q ≠ v.ownBlock := fun q hq e => by have := (World.ownsRow.lt hT.row.own q e.symm).1; omega
  have hbox3 : X3.heap[g]? = _ := (hgr.block g hgX (ownge g hg)).trans hT.box
  have hB3 : Below g X X3 := ⟨hgr.os, hgr.tape, hgr.output, hgr.size, fun q hq => hgr.block q (by omega) (ownge q (by omega))⟩
  have hS3 : (fun w : World => w.cell? ⟨b, o + k, none⟩ = some (.string ⟨s.toArray⟩)) X3 := (World.cell?_of_block (a := ⟨b, o + k, none⟩) (hgr.block b (by omega) (ownge b (by omega)))).trans hc
  obtain ⟨⟨_, z0⟩, ⟨_, z1⟩, ⟨_, z2⟩, y0, y1, y2⟩ := cells_three hbox3
  have hset := heap_setCell_same X3 g 2 _ 44 (.slice va nn vc) hbox3
  have hTe : TB B g W0 (X3.setCell ⟨g, 2, none⟩ (.slice va nn vc)) (L ++ [(M.textI s, .slice none 0 0)]) (.slice va nn vc) := ⟨hset, hrow3.setCell ⟨g, 2, none⟩ _ hg, hT.below.trans (hB3.trans ⟨rfl, rfl, rfl, by simp [World.setCell], fun q hq => Below.heap_setCell _ _ _ _ (by simp; omega)⟩)⟩
  have hSe : (fun w : World => w.cell? ⟨b, o + k, none⟩ = some (.string ⟨s.toArray⟩)) (X3.setCell ⟨g, 2, none⟩ (.slice va nn vc)) := (World.cell?_of_block (a := ⟨b, o + k, none⟩) (Below.heap_setCell _ _ _ _ (by simp; omega))).trans hS3
  have hze : m ≤ (X3.setCell ⟨g, 2, none⟩ (.slice va nn vc)).heap.size := by have := hgr.size; simp [World.setCell]; omega
  simp only [Tryz.f89, Option.bind_some, regAt, Option.some_or, Option.none_or, if_true, if_false, Nat.reduceEqDiff, Option.some.injEq, Code.region.injEq, true_and, and_true] at hcode
  subst hcode
  refine wpAnyH_ready (rs := [8]) (by kernel_rfl) (by simp) ?_
  refine AllReadyH.cons rfl (fun K hK => ?_) AllReadyH.nil
  rw [if_pos (by rfl)]
  refine wp_append_runG _ _ _ rfl _ _ (.slice va nn vc) rfl rfl hr ?_
  refine hK.out _ _ hS3 (fun _ => ?_)
  clear hK K
  simp only [Act.put, List.getElem_toArray, List.getElem_cons_succ, List.getElem_cons_zero, List.setIfInBounds_toArray, List.set_cons_zero, List.set_cons_succ]
  refine wpAnyH_ready (rs := [9]) (by kernel_rfl) (by simp) ?_
  refine AllReadyH.cons rfl (fun K hK => ?_) AllReadyH.nil
  go_simp
  refine hK.out _ _ hS3 (fun _ => ?_)
  clear hK K
  simp only [List.setIfInBounds_toArray, List.set_cons_zero, List.set_cons_succ]
  refine wpAnyH_ready (rs := [10]) (by kernel_rfl) (by simp) ?_
  refine AllReadyH.cons rfl (fun K hK => ?_) AllReadyH.nil
  go_simp
  refine hK.out _ _ hSe (fun _ => ?_)
  refine wpAnyH_done (by kernel_rfl) ?_ _
  exact ⟨.slice va nn vc, _, _, _, _, _, _, _, _, _, _, rfl, hTe, hze⟩

set_option maxRecDepth 100000 in
set_option maxHeartbeats 8000000 in
theorem texts_reg (g b o B k m : Nat) (W0 W : World) (L : List (M.It × Value)) (v t0 t1 t2 t5 t6 t7 t8 t9 t10 t11 t12 t13 t14 t15 t16 t17 t18 t19 t20 t21 t22 : Value) (s : List UInt8) (n cap : Nat) (ops : Array Oper)
    (ht0 : t0 = .slice (some ⟨b, o, none⟩) n cap) (hk : k < n) (_hk2 : k < 600)
    (hcode : Tryz.f89.body.bind (regAt 5) = some (.region 5 ops true)) (hT : TB B g W0 W L v) (hg : g < B) (hB : B ≤ W.heap.size) (hlen : L.length ≤ 600) (hbg : b < g) (hm : m ≤ W.heap.size)
    (hc : W.cell? ⟨b, o + k, none⟩ = some (.string ⟨s.toArray⟩)) :
    (Code.region 5 ops true).wp Tryz.prog (nrm fun a' U => ∃ v' z12 z13 z14 z15 z16 z17 z18 z19 z20 z21, a' = { tmps := #[t0, t1, t2, .pointer (some ⟨g, 0, none⟩), .int .i64 k, t5, t6, t7, t8, t9, t10, t11, z12, z13, z14, z15, z16, z17, z18, z19, z20, z21, t22], defers := [] } ∧ TB B g W0 U (L ++ [(M.textI s, .slice none 0 0)]) v' ∧ m ≤ U.heap.size)
      { tmps := #[t0, t1, t2, .pointer (some ⟨g, 0, none⟩), .int .i64 k, t5, t6, t7, t8, t9, t10, t11, t12, t13, t14, t15, t16, t17, t18, t19, t20, t21, t22], defers := [] } W := by
  subst ht0
  have hgW : g < W.heap.size := by omega
  obtain ⟨⟨_, z0⟩, ⟨_, z1⟩, _, y0, y1, y2⟩ := cells_three hT.box
  have z2 : W.cell? ⟨g, 2, none⟩ = some v := by simp [World.cell?, hT.box]
  have hk' : ((k : Nat) : Int) < (n : Nat) := by omega
  simp only [Tryz.f89, Option.bind_some, regAt, Option.some_or, Option.none_or, if_true, if_false, Nat.reduceEqDiff, Option.some.injEq, Code.region.injEq, true_and, and_true] at hcode
  subst hcode
  refine wp_region_held (S := fun w => w.cell? ⟨b, o + k, none⟩ = some (.string ⟨s.toArray⟩)) (by kernel_rfl) ?_
  change wpAnyH _ _ _ _ _ _ _ _ W.drew
  rw [show Array.replicate (Array.size _) false = #[false, false, false, false, false, false, false, false, false, false, false] from rfl, show Array.size (α := Oper) _ = 11 from rfl]
  have hS0 : (fun w : World => w.cell? ⟨b, o + k, none⟩ = some (.string ⟨s.toArray⟩)) W.drew := hc
  refine wpAnyH_take (i := 0) (v := .pointer (some ⟨g, 2, none⟩)) rfl (by kernel_rfl) (by kernel_rfl) (by kernel_rfl) (fun _ _ _ h => h) (Or.inl ⟨by rfl, ?_⟩) hS0 ?_
  · intro w hw
    go_simp
  simp only [Act.put, List.getElem_toArray, List.getElem_cons_zero, List.setIfInBounds_toArray, List.set_cons_zero, List.set_cons_succ]
  refine wpAnyH_take (i := 2) (v := .slice (some ⟨b, o, none⟩) n cap) rfl (by kernel_rfl) (by kernel_rfl) (by kernel_rfl) (fun _ _ _ h => h) (Or.inl ⟨by rfl, ?_⟩) hS0 ?_
  · intro w hw
    go_simp
  simp only [Act.put, List.getElem_toArray, List.getElem_cons_succ, List.getElem_cons_zero, List.setIfInBounds_toArray, List.set_cons_zero, List.set_cons_succ]
  refine wpAnyH_take (i := 3) (v := .int .i64 k) rfl (by kernel_rfl) (by kernel_rfl) (by kernel_rfl) (fun _ _ _ h => h) (Or.inl ⟨by rfl, ?_⟩) hS0 ?_
  · intro w hw
    go_simp
  simp only [Act.put, List.getElem_toArray, List.getElem_cons_succ, List.getElem_cons_zero, List.setIfInBounds_toArray, List.set_cons_zero, List.set_cons_succ]
  refine wpAnyH_take (i := 4) (v := .pointer (some ⟨b, o + k, none⟩)) rfl (by kernel_rfl) (by kernel_rfl) (by kernel_rfl) (fun _ _ _ h => h) (Or.inl ⟨by rfl, ?_⟩) hS0 ?_
  · intro w hw
    go_simp
  simp only [Act.put, List.getElem_toArray, List.getElem_cons_succ, List.getElem_cons_zero, List.setIfInBounds_toArray, List.set_cons_zero, List.set_cons_succ]
  refine wpAnyH_take (i := 5) (v := .string ⟨s.toArray⟩) rfl (by kernel_rfl) (by kernel_rfl) (by kernel_rfl) (fun _ _ _ h => h) (Or.inl ⟨by rfl, ?_⟩) hS0 ?_
  · intro w hw
    go_simp
  simp only [Act.put, List.getElem_toArray, List.getElem_cons_succ, List.getElem_cons_zero, List.setIfInBounds_toArray, List.set_cons_zero, List.set_cons_succ]
  refine wpAnyH_ready (rs := [1, 6]) (by kernel_rfl) (by simp) ?_
  refine AllReadyH.cons rfl (fun K hK => ?_) (AllReadyH.cons rfl (fun K hK => ?_) AllReadyH.nil)
  · go_simp
    refine hK.out _ _ hS0 (fun _ => ?_)
    clear hK K
    simp only [List.setIfInBounds_toArray, List.set_cons_zero, List.set_cons_succ]
    refine wpAnyH_ready (rs := [6]) (by kernel_rfl) (by simp) ?_
    refine AllReadyH.cons rfl (fun K hK => ?_) AllReadyH.nil
    go_simp
    refine (rf_text s _).mono ?_
    rintro e w1 ⟨rfl, hb1'⟩
    have hb1 : Below W.heap.size W w1 := (Below.refl _ W).drew.trans hb1'
    clear hb1'
    have hS1 : (fun w : World => w.cell? ⟨b, o + k, none⟩ = some (.string ⟨s.toArray⟩)) w1 := (hb1.cell (p := ⟨b, o + k, none⟩) (by show b < _; omega)).trans hc
    have hT1 : TB B g W0 w1 L v := hT.kept hgW hB hb1
    have hz1 : W.heap.size ≤ w1.heap.size := hb1.size
    try go_wp2_with fail
    refine hK.out _ _ hS1 (fun _ => ?_)
    clear hK K
    simp only [List.setIfInBounds_toArray, List.set_cons_zero, List.set_cons_succ]
    refine wpAnyH_ready (rs := [7]) (by kernel_rfl) (by simp) ?_
    refine AllReadyH.cons rfl (fun K hK => ?_) AllReadyH.nil
    go_simp
    have hX : (fun w : World => w.cell? ⟨b, o + k, none⟩ = some (.string ⟨s.toArray⟩)) (w1.alloc (.cells #[.bool false, .string ⟨s.toArray⟩, .slice none 0 0] 44)) := (((Below.refl _ w1).alloc (Nat.le_refl _) _).cell (p := ⟨b, o + k, none⟩) (by show b < _; omega)).trans hS1
    have htb : ∀ j x, ([.bool false, .string ⟨s.toArray⟩, .slice none 0 0] : List Value)[j]? = some x → (w1.alloc (.cells #[.bool false, .string ⟨s.toArray⟩, .slice none 0 0] 44)).cell? ((⟨w1.heap.size, 0, none⟩ : Addr).add j) = some x := by
      intro j x hj
      rw [addr_add]
      match j, hj with
      | 0, hj => cases hj; simp [go_sem]
      | 1, hj => cases hj; simp [go_sem]
      | 2, hj => cases hj; simp [go_sem]
    have hTX : TB B g W0 (w1.alloc (.cells #[.bool false, .string ⟨s.toArray⟩, .slice none 0 0] 44)) L v := hT1.kept (by omega) (by omega) ((Below.refl _ w1).alloc (Nat.le_refl _) _)
    refine hK.out _ _ hX (fun _ => ?_)
    clear hK K
    simp only [List.setIfInBounds_toArray, List.set_cons_zero, List.set_cons_succ]
    exact texts_reg2 g b o B k m _ W0 _ L v _ _ _ _ _ _ _ _ _ _ _ _ _ _ _ _ _ _ _ s _ (by kernel_rfl) hTX hg (by simp; omega) hlen hbg (by simp; omega) hX htb
  · go_simp
    refine (rf_text s _).mono ?_
    rintro e w1 ⟨rfl, hb1'⟩
    have hb1 : Below W.heap.size W w1 := (Below.refl _ W).drew.trans hb1'
    clear hb1'
    have hS1 : (fun w : World => w.cell? ⟨b, o + k, none⟩ = some (.string ⟨s.toArray⟩)) w1 := (hb1.cell (p := ⟨b, o + k, none⟩) (by show b < _; omega)).trans hc
    have hT1 : TB B g W0 w1 L v := hT.kept hgW hB hb1
    have hz1 : W.heap.size ≤ w1.heap.size := hb1.size
    try go_wp2_with fail
    refine hK.out _ _ hS1 (fun _ => ?_)
    clear hK K
    simp only [List.setIfInBounds_toArray, List.set_cons_zero, List.set_cons_succ]
    refine wpAnyH_ready (rs := [1, 7]) (by kernel_rfl) (by simp) ?_
    refine AllReadyH.cons rfl (fun K hK => ?_) (AllReadyH.cons rfl (fun K hK => ?_) AllReadyH.nil)
    · have z2' := hT1.cell
      go_simp
      refine hK.out _ _ hS1 (fun _ => ?_)
      clear hK K
      simp only [List.setIfInBounds_toArray, List.set_cons_zero, List.set_cons_succ]
      refine wpAnyH_ready (rs := [7]) (by kernel_rfl) (by simp) ?_
      refine AllReadyH.cons rfl (fun K hK => ?_) AllReadyH.nil
      go_simp
      have hX : (fun w : World => w.cell? ⟨b, o + k, none⟩ = some (.string ⟨s.toArray⟩)) (w1.alloc (.cells #[.bool false, .string ⟨s.toArray⟩, .slice none 0 0] 44)) := (((Below.refl _ w1).alloc (Nat.le_refl _) _).cell (p := ⟨b, o + k, none⟩) (by show b < _; omega)).trans hS1
      have htb : ∀ j x, ([.bool false, .string ⟨s.toArray⟩, .slice none 0 0] : List Value)[j]? = some x → (w1.alloc (.cells #[.bool false, .string ⟨s.toArray⟩, .slice none 0 0] 44)).cell? ((⟨w1.heap.size, 0, none⟩ : Addr).add j) = some x := by
        intro j x hj
        rw [addr_add]
        match j, hj with
        | 0, hj => cases hj; simp [go_sem]
        | 1, hj => cases hj; simp [go_sem]
        | 2, hj => cases hj; simp [go_sem]
      have hTX : TB B g W0 (w1.alloc (.cells #[.bool false, .string ⟨s.toArray⟩, .slice none 0 0] 44)) L v := hT1.kept (by omega) (by omega) ((Below.refl _ w1).alloc (Nat.le_refl _) _)
      refine hK.out _ _ hX (fun _ => ?_)
      clear hK K
      simp only [List.setIfInBounds_toArray, List.set_cons_zero, List.set_cons_succ]
      exact texts_reg2 g b o B k m _ W0 _ L v _ _ _ _ _ _ _ _ _ _ _ _ _ _ _ _ _ _ _ s _ (by kernel_rfl) hTX hg (by simp; omega) hlen hbg (by simp; omega) hX htb
    · go_simp
      have hX : (fun w : World => w.cell? ⟨b, o + k, none⟩ = some (.string ⟨s.toArray⟩)) (w1.alloc (.cells #[.bool false, .string ⟨s.toArray⟩, .slice none 0 0] 44)) := (((Below.refl _ w1).alloc (Nat.le_refl _) _).cell (p := ⟨b, o + k, none⟩) (by show b < _; omega)).trans hS1
      have htb : ∀ j x, ([.bool false, .string ⟨s.toArray⟩, .slice none 0 0] : List Value)[j]? = some x → (w1.alloc (.cells #[.bool false, .string ⟨s.toArray⟩, .slice none 0 0] 44)).cell? ((⟨w1.heap.size, 0, none⟩ : Addr).add j) = some x := by
        intro j x hj
        rw [addr_add]
        match j, hj with
        | 0, hj => cases hj; simp [go_sem]
        | 1, hj => cases hj; simp [go_sem]
        | 2, hj => cases hj; simp [go_sem]
      have hTX : TB B g W0 (w1.alloc (.cells #[.bool false, .string ⟨s.toArray⟩, .slice none 0 0] 44)) L v := hT1.kept (by omega) (by omega) ((Below.refl _ w1).alloc (Nat.le_refl _) _)
      refine hK.out _ _ hX (fun _ => ?_)
      clear hK K
      simp only [List.setIfInBounds_toArray, List.set_cons_zero, List.set_cons_succ]
      refine wpAnyH_ready (rs := [1]) (by kernel_rfl) (by simp) ?_
      refine AllReadyH.cons rfl (fun K hK => ?_) AllReadyH.nil
      have z2' := hTX.cell
      go_simp
      refine hK.out _ _ hX (fun _ => ?_)
      clear hK K
      simp only [List.setIfInBounds_toArray, List.set_cons_zero, List.set_cons_succ]
      exact texts_reg2 g b o B k m _ W0 _ L v _ _ _ _ _ _ _ _ _ _ _ _ _ _ _ _ _ _ _ s _ (by kernel_rfl) hTX hg (by simp; omega) hlen hbg (by simp; omega) hX htb
end Go.Proofs.YtcbggjdpjjdfmaaGreatDoor
namespace Go.Proofs.YtcbggjdpjjdfmaaGreatDoor
open Go Go.RowKit

theorem tl_next {ls : List (List UInt8)} {k : Nat} {s : List UInt8} (h : ls[k]? = some s) : tl (ls.take (k + 1)) = tl (ls.take k) ++ [(M.textI s, .slice none 0 0)] := by
  unfold tl
  rw [List.take_add_one, h, List.map_append]
  rfl
theorem tl_items (ls : List (List UInt8)) : (tl ls).map (·.1) = ls.map M.textI := by
  unfold tl
  rw [List.map_map]
  rfl
theorem tl_length (ls : List (List UInt8)) : (tl ls).length = ls.length := List.length_map ..

set_option maxRecDepth 100000 in
set_option maxHeartbeats 8000000 in
theorem rf_textsF (ls : List (List UInt8)) (a : Option Addr) (cap : Nat) (w : World) (hL : Ts w w.heap.size ls (.slice a ls.length cap)) (hl : ls.length ≤ 600) :
    Calls Tryz.prog 89 #[.slice a ls.length cap] w fun e w' => (∃ a' cap', e = .returned (iv true [] (.slice a' ls.length cap')) ∧ Fresh w.heap.size w' (ls.map M.textI) (.slice a' ls.length cap')) ∧ Below w.heap.size w w' := by
  obtain ⟨wx, hwx⟩ : ∃ wx, w.alloc (.cells #[.bool false, .string ⟨#[]⟩, .slice none 0 0] 44) = wx := ⟨_, rfl⟩
  have hbx : Below w.heap.size w wx := by rw [← hwx]; (repeat (first | exact Below.refl _ _ | refine Below.drew ?_ | refine Below.alloc ?_ (by first | omega | (simp; omega) | simp) _ | refine Below.setCell ?_ (by first | omega | (simp; omega) | simp) _))
  have hzx : wx.heap.size = w.heap.size + 1 := by rw [← hwx]; simp
  have hrowx : wx.heap[w.heap.size]? = some (.cells #[.bool false, .string ⟨#[]⟩, .slice none 0 0] 44 (0, 0)) := by rw [← hwx]; exact heap_alloc_new w _
  obtain ⟨w0, hw0⟩ : ∃ w0, wx.alloc (.cells #[.bool true, .string ⟨#[]⟩, .slice none 0 0] 44) = w0 := ⟨_, rfl⟩
  have hb0 : Below wx.heap.size wx w0 := by rw [← hw0]; (repeat (first | exact Below.refl _ _ | refine Below.drew ?_ | refine Below.alloc ?_ (by first | omega | (simp; omega) | simp) _ | refine Below.setCell ?_ (by first | omega | (simp; omega) | simp) _))
  have hz0 : w0.heap.size = w.heap.size + 2 := by rw [← hw0]; simp; omega
  have hrow0 : w0.heap[w.heap.size]? = _ := (hb0.block _ (by omega)).trans hrowx
  have hbox0 : w0.heap[w.heap.size + 1]? = some (.cells #[.bool true, .string ⟨#[]⟩, .slice none 0 0] 44 (0, 0)) := by rw [← hw0, ← hzx]; exact heap_alloc_new wx _
  have HX := Lib.hid hwx
  have HW := Lib.hid hw0
  have T0 : TB (w.heap.size + 2) (w.heap.size + 1) w0 w0 [] (.slice none 0 0) := ⟨hbox0, ⟨⟨by rfl, .inl ⟨rfl, rfl⟩⟩, fun p hp => by cases hp⟩, Below.refl _ _⟩
  clear hw0 hwx
  go_enter Tryz.func89, Tryz.ntmps89
  go_wp2_with fail
  rw [HX.out, HW.out]
  go_loopw [4] (fun i wr => ∃ (k : Nat) (v : Value), k ≤ ls.length ∧ i = .int .i64 k ∧ TB (w.heap.size + 2) (w.heap.size + 1) w0 wr (tl (ls.take k)) v ∧ w0.heap.size ≤ wr.heap.size) (fun i _ => ls.length - (intOf i).toNat)
  case atStart => exact ⟨0, _, by omega, rfl, T0, Nat.le_refl _⟩
  case round =>
    obtain ⟨k, v, hk, rfl, hT, hsz⟩ := hrel
    have hwr : Below w.heap.size w wr := hbx.trans ((hb0.mono (by omega)).trans (hT.below.mono (by omega)))
    by_cases hlt : k < ls.length
    · have hk2 : k < 600 := by omega
      obtain ⟨b, o, s, rfl, hb, hs, cs⟩ := (hL.from_ hwr).at_ hlt
      have hlen : (tl (ls.take k)).length ≤ 600 := by rw [tl_length, List.length_take]; omega
      have hnx := Lib.hid (tl_next hs)
      go_wp2_with fail
      refine wp_mono' (texts_reg (w.heap.size + 1) b o (w.heap.size + 2) k w0.heap.size w0 wr (tl (ls.take k)) v _ _ _ _ _ _ _ _ _ _ _ _ _ _ _ _ _ _ _ _ _ s ls.length cap _ rfl hlt hk2 (by kernel_rfl) hT (by omega) (by omega) hlen (by omega) hsz cs) ?_
      rintro a' U ⟨v', z12, z13, z14, z15, z16, z17, z18, z19, z20, z21, rfl, hT', hm⟩
      rw [← hnx.out] at hT'
      go_wp2_with fail
      go_roundw
      case rel => exact ⟨k + 1, v', by omega, by simp, hT', hm⟩
      case measure => simp [intOf]; omega
    · obtain rfl : k = ls.length := by omega
      rw [List.take_length] at hT
      obtain ⟨va, vc, hv⟩ := hT.row.slice
      rw [tl_length] at hv
      subst hv
      have c0 : wr.cell? ⟨w.heap.size + 1, 0, none⟩ = some (.bool true) := by simp [World.cell?, hT.box]
      have c1 : wr.cell? ⟨w.heap.size + 1, 1, none⟩ = some (.string ⟨#[]⟩) := by simp [World.cell?, hT.box]
      have c2 : wr.cell? ⟨w.heap.size + 1, 2, none⟩ = some (.slice va ls.length vc) := by simp [World.cell?, hT.box]
      have hrow := (hT.below.block w.heap.size (by omega)).trans hrow0
      obtain ⟨⟨_, z0⟩, ⟨_, z1⟩, ⟨_, z2⟩, y0, y1, y2⟩ := cells_three hrow
      go_wp2_with fail
      have hF := hT.row.fresh
      rw [tl_items] at hF
      refine rf_post rfl w wr _ true [] (.slice va ls.length vc) w.heap.size (Nat.le_refl _) hwr _ _ _ hrow _ rfl (fun Z hZ hz ho => ⟨⟨va, vc, rfl, ?_⟩, hZ⟩)
      exact LayS.keep hF (T := fun b => w.heap.size ≤ b ∧ b < Z.heap.size) (W := Z) fun b ⟨h1, h2⟩ => ⟨⟨by omega, by omega⟩, ho b (by omega)⟩
end Go.Proofs.YtcbggjdpjjdfmaaGreatDoor
namespace Go.Proofs.YtcbggjdpjjdfmaaGreatDoor
open Go

section
variable {P : Program} {ops : Array Oper} {Q : Exit → Act → World → Prop} {md : Region.Mode} {S : World → Prop}
/-- Whatever order is picked from here on; S holds behind every operation that is carried out, but for number f. -/
def wpAnyF (P : Program) (md : Region.Mode) (ops : Array Oper) (Q : Exit → Act → World → Prop) (S : World → Prop) (f : Nat) : Nat → Array Bool → Act → World → Prop
  | 0, listed, a, w => Region.ready md ops listed = [] ∧ Q .normal a w
  | n + 1, listed, a, w => (Region.ready md ops listed = [] → Q .normal a w) ∧
    ∀ i ∈ Region.ready md ops listed, wpOp P ops Q i (fun a' w' => (i ≠ f → S w') ∧ wpAnyF P md ops Q S f n (listed.setIfInBounds i true) a' w') a w
theorem wpAny_of_F {f : Nat} : ∀ (n : Nat) (listed : Array Bool) (a : Act) (w : World), wpAnyF P md ops Q S f n listed a w → wpAny P md ops Q n listed a w
  | 0, _, _, _, h => h
  | n + 1, _, _, _, h => ⟨h.1, fun i hi => wpOp_mono (fun a' w' h' => wpAny_of_F n _ a' w' h'.2) (h.2 i hi)⟩
/-- Does number f wait for number i? -/
def waitsOn (md : Region.Mode) (ops : Array Oper) (f i : Nat) : Bool := f != i && match ops[f]? with | some o => o.after.any (fun e => Region.binds md e && e.on == i) | none => false
theorem waitsOn_ready {f i : Nat} {listed : Array Bool} (h : waitsOn md ops f i = true) (hi : i ∈ Region.ready md ops listed) : f ∉ Region.ready md ops listed := by
  intro hf
  obtain ⟨_, o, ho, hall⟩ := mem_ready.1 hf
  unfold waitsOn at h
  rw [Bool.and_eq_true, ho] at h
  obtain ⟨j, hj, h3⟩ : ∃ (j : Nat), ∃ h, Region.binds md (o.after[j]'h) = true ∧ (o.after[j]'h).on = i := by simpa using h.2
  have h4 := hall _ (Array.getElem_mem hj) h3.1
  rw [h3.2] at h4
  have h5 := (mem_ready.1 hi).1
  rcases Nat.lt_or_ge i listed.size with h' | h'
  · simp [h'] at h4 h5; rw [h4] at h5; cases h5
  · simp [Array.getElem?_eq_none h'] at h4
theorem wpAnyF_first {f i : Nat} {oi : Oper} {v : Value} (hi : ops[i]? = some oi) (hsel : ∀ (j : Nat) (o : Oper) cs b, ops[j]? = some o → o.op ≠ .select cs b) (hw : waitsOn md ops f i = true)
    (hQ : ∀ c a w, Q (.panic c) (a.put oi.dst v) w → Q (.panic c) a w) : ∀ (n : Nat) (listed : Array Bool) (a : Act) (w : World),
      (∀ j oj, ops[j]? = some oj → j ≠ i → listed.getD j true = false → (∀ e ∈ oj.after, Region.binds md e = true → e.on ≠ i) → oi.apart ops oj = true) →
      i ∈ Region.ready md ops listed → YieldsIf P ops S oi v a → S w →
      wpAnyF P md ops Q S f n (listed.setIfInBounds i true) (a.put oi.dst v) w → wpAnyF P md ops Q S f (n + 1) listed a w := by
  intro n
  induction n with
  | zero =>
    intro listed a w _ hr hy hS H
    refine ⟨fun h => (by rw [h] at hr; cases hr), fun j hj => ?_⟩
    by_cases hji : j = i
    · subst hji
      exact hy.wpOp hi hS ⟨fun _ => hS, H⟩
    · have h1 := ready_mono hj hji
      rw [H.1] at h1
      cases h1
  | succ n ih =>
    intro listed a w hfree hr hy hS H
    refine ⟨fun h => (by rw [h] at hr; cases hr), fun j hj => ?_⟩
    by_cases hji : j = i
    · subst hji
      exact hy.wpOp hi hS ⟨fun _ => hS, H⟩
    · have hjf : j ≠ f := fun e => waitsOn_ready hw hr (e ▸ hj)
      have h1 := H.2 j (ready_mono hj hji)
      obtain ⟨hun, oj, hoj, hall⟩ := mem_ready.1 hj
      have hnot : ∀ e ∈ oj.after, Region.binds md e = true → e.on ≠ i := fun e he hb heq => by
        have g1 := hall e he hb
        rw [heq] at g1
        have g0 := (mem_ready.1 hr).1
        rcases Nat.lt_or_ge i listed.size with h' | h'
        · simp [h'] at g0 g1; rw [g0] at g1; cases g1
        · simp [Array.getElem?_eq_none h'] at g1
      have h2 := wpOp_putIf hoj (hfree j oj hoj hji hun hnot) (fun cs b => hsel i oi cs b hi) (fun cs b => hsel j oj cs b hoj) hQ hy h1
      refine wpOp_mono (fun a' w' h3 => ⟨fun _ => h3.2.1 hjf, ih (listed.setIfInBounds j true) a' w' ?_ (ready_mono hr (Ne.symm hji)) h3.1 (h3.2.1 hjf) ?_⟩) h2
      · intro k ok hk hki hu hno
        refine hfree k ok hk hki ?_ hno
        by_cases hjk : j = k
        · subst hjk; exact hun
        · rwa [getD_set_ne true hjk] at hu
      · rw [Array.setIfInBounds_comm _ _ hji]
        exact h3.2.2
theorem wpAnyF_take {f i : Nat} {oi : Oper} {v : Value} {n : Nat} {listed : Array Bool} {a : Act} {w : World} (hi : ops[i]? = some oi) (hs : Region.noSelect ops = true) (hw : waitsOn md ops f i = true)
    (hf : Region.free md ops listed i = true) (hr : (Region.ready md ops listed).contains i = true) (hQ : ∀ c a w, Q (.panic c) (a.put oi.dst v) w → Q (.panic c) a w) (hy : YieldsIf P ops S oi v a) (hS : S w)
    (h : wpAnyF P md ops Q S f n (listed.setIfInBounds i true) (a.put oi.dst v) w) : wpAnyF P md ops Q S f (n + 1) listed a w :=
  wpAnyF_first hi (Region.noSelect_spec hs) hw hQ n listed a w (Region.free_spec hi hf) (by simpa using hr) hy hS h
/-- One operation alone may come up. -/
theorem wpAnyF_one {f i n : Nat} {listed : Array Bool} {a : Act} {w : World} {o : Oper} (hr : Region.ready md ops listed = [i]) (ho : ops[i]? = some o) (hif : (i == f) = false)
    (h : ∀ K' : Act → World → Prop, Shut (∀ a w, S w → (S w → wpAnyF P md ops Q S f n (listed.setIfInBounds i true) a w) → K' a w) → if Region.wanted o (yielded ops a.tmps) = true then Oper.wp P o a w K' Q else K' (a.put o.dst undef) w) :
    wpAnyF P md ops Q S f (n + 1) listed a w := by
  refine ⟨fun h0 => (by rw [hr] at h0; cases h0), fun j hj => ?_⟩
  rw [hr, List.mem_singleton] at hj
  subst hj
  exact wpOp_step ho (fun K' hK => h K' (fun a w hS hW => hK a w ⟨fun _ => hS, hW hS⟩))
theorem wpAnyF_last {f n : Nat} {listed : Array Bool} {a : Act} {w : World} {o : Oper} (hr : Region.ready md ops listed = [f]) (ho : ops[f]? = some o)
    (h : ∀ K' : Act → World → Prop, Shut (∀ a w, wpAnyF P md ops Q S f n (listed.setIfInBounds f true) a w → K' a w) → if Region.wanted o (yielded ops a.tmps) = true then Oper.wp P o a w K' Q else K' (a.put o.dst undef) w) :
    wpAnyF P md ops Q S f (n + 1) listed a w := by
  refine ⟨fun h0 => (by rw [hr] at h0; cases h0), fun j hj => ?_⟩
  rw [hr, List.mem_singleton] at hj
  subst hj
  exact wpOp_step ho (fun K' hK => h K' (fun a w hW => hK a w ⟨fun e => absurd rfl e, hW⟩))
theorem wpAnyF_done {f : Nat} {listed : Array Bool} {a : Act} {w : World} (hr : Region.ready md ops listed = []) (h : Q .normal a w) : ∀ n, wpAnyF P md ops Q S f n listed a w
  | 0 => ⟨hr, h⟩
  | _ + 1 => ⟨fun _ => h, by rw [hr]; simp⟩
theorem wp_region_F {id f : Nat} {a : Act} {w : World} (hm : P.follows .mixedOrders = true)
    (h : wpAnyF P .any ops Q S f ops.size (Array.replicate ops.size false) a { w with drawn := w.drawn + 1 }) : (Code.region id ops true).wp P Q a w :=
  wp_region_any hm (wpAny_of_F _ _ _ _ h)
end
end Go.Proofs.YtcbggjdpjjdfmaaGreatDoor
namespace Go.Proofs.YtcbggjdpjjdfmaaGreatDoor
open Go Go.RowKit Go.Lib
attribute [local go_sem] Oper.semAt_some

theorem rf_listI (a : Option Addr) (n cap : Nat) (w : World) :
    Calls Tryz.prog 50 #[.slice a n cap] w fun e w' => e = .returned (iv true [] (.slice a n cap)) ∧ Below w.heap.size w w' := by
  go_enter Tryz.func50, Tryz.ntmps50
  go_wp2_with fail
  refine rf_new rfl w _ true [] _ _ ?_ (fun Z hZ => ⟨rfl, hZ⟩)
  rfl
theorem grown_of {w W : World} {r : Option Nat} (h : Below w.heap.size w W) : w.grownBy W r := ⟨h.os, h.tape, h.output, h.size, fun i hi _ => h.block i hi⟩
theorem grown_trans {A B C : World} {r : Option Nat} (h : A.grownBy B r) (k : B.grownBy C r) : A.grownBy C r :=
  ⟨k.os.trans h.os, k.tape.trans h.tape, k.output.trans h.output, Nat.le_trans h.size k.size, fun i hi hne => (k.block i (Nat.lt_of_lt_of_le hi h.size) hne).trans (h.block i hi hne)⟩
theorem three_fresh {w : World} {B b : Nat} {ad dt : List UInt8} {ts : List M.It} {v : Value} (h : w.heap[b]? = some (.cells #[.bool false, .string ⟨ad.toArray⟩, .slice none 0 0, .bool true, .string ⟨#[]⟩, v, .bool false, .string ⟨dt.toArray⟩, .slice none 0 0] 44 (0, 0)))
    (hB : B ≤ b) (hlt : b < w.heap.size) (hF : Fresh B w ts v) : Fresh B w [M.textI ad, M.listI ts, M.textI dt] (.slice (some ⟨b, 0, none⟩) 3 3) := by
  refine LayS.row (xs := [M.textI ad, M.listI ts, M.textI dt]) (fun i => if i = 1 then v else .slice none 0 0) ⟨hB, hlt⟩ (Nat.le_refl 3) (by decide) ?_ ?_ ?_ ?_
  all_goals
    intro i l d ys hx
    match i, hx with
    | 0, hx => simp [M.textI] at hx; obtain ⟨rfl, rfl, rfl⟩ := hx; first | exact .nil_ (by decide) | simp [World.cell?, h]
    | 1, hx => simp [M.listI] at hx; obtain ⟨rfl, rfl, rfl⟩ := hx; first | exact hF | simp [World.cell?, h]
    | 2, hx => simp [M.textI] at hx; obtain ⟨rfl, rfl, rfl⟩ := hx; first | exact .nil_ (by decide) | simp [World.cell?, h]
    | n + 3, hx => simp at hx
set_option maxRecDepth 100000 in
set_option maxHeartbeats 8000000 in
theorem rwritten_any (ls : List M.Lg) (a : Option Addr) (cap : Nat) (w : World) (hL : Ls w w.heap.size ls (.slice a ls.length cap)) (hl : ls.length ≤ 600) (ht : ∀ g ∈ ls, g.topics.length ≤ 600) :
    Calls Tryz.prog 48 #[.slice a ls.length cap] w fun e w' => (∃ a' cap', e = .returned (iv true [] (.slice a' ls.length cap')) ∧ Fresh w.heap.size w' (ls.map M.logI) (.slice a' ls.length cap')) ∧ Below w.heap.size w w' := by
  have mixed : Tryz.prog.follows .mixedOrders = true := by kernel_rfl
  obtain ⟨wx, hwx⟩ : ∃ wx, w.alloc (.cells #[.bool false, .string ⟨#[]⟩, .slice none 0 0] 44) = wx := ⟨_, rfl⟩
  have hbx : Below w.heap.size w wx := by rw [← hwx]; (repeat (first | exact Below.refl _ _ | refine Below.drew ?_ | refine Below.alloc ?_ (by first | omega | (simp; omega) | simp) _ | refine Below.setCell ?_ (by first | omega | (simp; omega) | simp) _))
  have hzx : wx.heap.size = w.heap.size + 1 := by rw [← hwx]; simp
  have hrowx : wx.heap[w.heap.size]? = some (.cells #[.bool false, .string ⟨#[]⟩, .slice none 0 0] 44 (0, 0)) := by rw [← hwx]; exact heap_alloc_new w _
  obtain ⟨w0, hw0⟩ : ∃ w0, wx.alloc (.cells #[.bool true, .string ⟨#[]⟩, .slice none 0 0] 44) = w0 := ⟨_, rfl⟩
  have hb0 : Below wx.heap.size wx w0 := by rw [← hw0]; (repeat (first | exact Below.refl _ _ | refine Below.drew ?_ | refine Below.alloc ?_ (by first | omega | (simp; omega) | simp) _ | refine Below.setCell ?_ (by first | omega | (simp; omega) | simp) _))
  have hz0 : w0.heap.size = w.heap.size + 2 := by rw [← hw0]; simp; omega
  have hrow0 : w0.heap[w.heap.size]? = _ := (hb0.block _ (by omega)).trans hrowx
  have hbox0 : w0.heap[w.heap.size + 1]? = some (.cells #[.bool true, .string ⟨#[]⟩, .slice none 0 0] 44 (0, 0)) := by rw [← hw0, ← hzx]; exact heap_alloc_new wx _
  have HX := Lib.hid hwx
  have HW := Lib.hid hw0
  have T0 : TB (w.heap.size + 2) (w.heap.size + 1) w0 w0 [] (.slice none 0 0) := ⟨hbox0, ⟨⟨by rfl, .inl ⟨rfl, rfl⟩⟩, fun p hp => by cases hp⟩, Below.refl _ _⟩
  have HL := Lib.hid hL
  have HTL := Lib.hid ht
  obtain ⟨g, hg⟩ : ∃ g, w.heap.size + 1 = g := ⟨_, rfl⟩
  clear hw0 hwx hL ht
  go_enter Tryz.func48, Tryz.ntmps48
  go_wp2_with fail
  rw [HX.out, HW.out]
  rw [hg] at T0
  have HGG := Lib.hid hg
  go_loopw [4] (fun i wr => ∃ (k : Nat) (v : Value) (L : List (M.It × Value)), k ≤ ls.length ∧ i = .int .i64 k ∧ L.map (·.1) = (ls.take k).map M.logI ∧ TB (w.heap.size + 2) g w0 wr L v ∧ w0.heap.size ≤ wr.heap.size) (fun i _ => ls.length - (RowKit.intOf i).toNat)
  case atStart => exact ⟨0, _, [], by omega, rfl, rfl, T0, Nat.le_refl _⟩
  case round =>
    obtain ⟨k, v, L, hk, rfl, hLm, hT, hsz⟩ := hrel
    have hwr : Below w.heap.size w wr := hbx.trans ((hb0.mono (by omega)).trans (hT.below.mono (by omega)))
    by_cases hlt : k < ls.length
    · have hk2 : k < 600 := by omega
      have hlti : (k : Int) < (ls.length : Int) := by omega
      obtain ⟨q, o, lg, ta, tc, rfl, hq, hx, k0, k1, k2, hT1⟩ := (HL.out.from_ hwr).at_ hlt
      have ht6 := HTL.out lg (List.mem_of_getElem? hx)
      have HXL := Lib.hid hx
      obtain ⟨ad, tp, dt⟩ := lg
      dsimp only at k0 k1 k2 hT1 ht6
      have hgs : g < wr.heap.size := by omega
      have hown : ∀ j, j < w.heap.size + 2 → some j ≠ v.ownBlock := fun j hj e => by have := (World.ownsRow.lt hT.row.own j e.symm).1; omega
      have HAW := Lib.hid (fun W (hC : wr.grownBy W v.ownBlock) => (show W.cell? ⟨q, o + k * 3, none⟩ = some (.string ⟨ad.toArray⟩) ∧ W.cell? ⟨q, o + k * 3 + 1, none⟩ = some (.slice ta tp.length tc) ∧ W.cell? ⟨q, o + k * 3 + 2, none⟩ = some (.string ⟨dt.toArray⟩) from
        have hb : W.heap[q]? = wr.heap[q]? := hC.block q (by omega) (hown q (by omega))
        ⟨(World.cell?_of_block (a := ⟨q, _, none⟩) hb).trans k0, (World.cell?_of_block (a := ⟨q, _, none⟩) hb).trans k1, (World.cell?_of_block (a := ⟨q, _, none⟩) hb).trans k2⟩))
      have HTC := Lib.hid (fun W (hC : wr.grownBy W v.ownBlock) => (World.cell?_of_block (a := ⟨g, 2, none⟩) (hC.block g hgs (hown g (by omega)))).trans hT.cell)
      have HTT := Lib.hid (fun W (hC : Below wr.heap.size wr W) => (show Ts W W.heap.size tp (.slice ta tp.length tc) from (hT1.from_ (hC.mono hwr.size)).mono (Nat.le_trans hwr.size hC.size)))
      have HOWN := Lib.hid hown
      have HT := Lib.hid hT
      have HLM := Lib.hid hLm
      have HSZ := Lib.hid hsz
      have HWR := Lib.hid hwr
      clear hx k0 k1 k2 hT1 hq hT hLm hwr hlt T0 hown
      go_wp2_with fail
      refine wp_region_F (S := fun W => wr.grownBy W v.ownBlock) (f := 25) mixed ?_
      have hB0 : Below wr.heap.size wr wr.drew := (Below.refl _ _).drew
      have hS0 : wr.grownBy wr.drew v.ownBlock := grown_of hB0
      rw [show Array.replicate (Array.size _) false = #[false, false, false, false, false, false, false, false, false, false, false, false, false, false, false, false, false, false, false, false, false, false, false, false, false, false] from rfl, show Array.size (α := Oper) _ = 26 from rfl]
      refine wpAnyF_take (i := 0) (v := .pointer (some ⟨g, 2, none⟩)) rfl (by kernel_rfl) (by kernel_rfl) (by kernel_rfl) (by kernel_rfl) (fun _ _ _ h => h) (Or.inl ⟨by rfl, ?_⟩) hS0 ?_
      · intro Y hY
        skip
        go_simp
      simp only [Act.put, List.getElem_toArray, List.getElem_cons_zero, List.setIfInBounds_toArray, List.set_cons_zero, List.set_cons_succ]
      refine wpAnyF_take (i := 1) (v := v) rfl (by kernel_rfl) (by kernel_rfl) (by kernel_rfl) (by kernel_rfl) (fun _ _ _ h => h) (Or.inl ⟨by rfl, ?_⟩) hS0 ?_
      · intro Y hY
        have c2 := HTC.out Y hY
        go_simp
      simp only [Act.put, List.getElem_toArray, List.getElem_cons_succ, List.getElem_cons_zero, List.setIfInBounds_toArray, List.set_cons_zero, List.set_cons_succ]
      refine wpAnyF_take (i := 2) (v := .slice (some ⟨q, o, none⟩) ls.length cap) rfl (by kernel_rfl) (by kernel_rfl) (by kernel_rfl) (by kernel_rfl) (fun _ _ _ h => h) (Or.inl ⟨by rfl, ?_⟩) hS0 ?_
      · intro Y hY
        skip
        go_simp
      simp only [Act.put, List.getElem_toArray, List.getElem_cons_succ, List.getElem_cons_zero, List.setIfInBounds_toArray, List.set_cons_zero, List.set_cons_succ]
      refine wpAnyF_take (i := 3) (v := .int .i64 (k : Nat)) rfl (by kernel_rfl) (by kernel_rfl) (by kernel_rfl) (by kernel_rfl) (fun _ _ _ h => h) (Or.inl ⟨by rfl, ?_⟩) hS0 ?_
      · intro Y hY
        skip
        go_simp
      simp only [Act.put, List.getElem_toArray, List.getElem_cons_succ, List.getElem_cons_zero, List.setIfInBounds_toArray, List.set_cons_zero, List.set_cons_succ]
      refine wpAnyF_take (i := 4) (v := .pointer (some ⟨q, o + k * 3, none⟩)) rfl (by kernel_rfl) (by kernel_rfl) (by kernel_rfl) (by kernel_rfl) (fun _ _ _ h => h) (Or.inl ⟨by rfl, ?_⟩) hS0 ?_
      · intro Y hY
        skip
        go_simp
      simp only [Act.put, List.getElem_toArray, List.getElem_cons_succ, List.getElem_cons_zero, List.setIfInBounds_toArray, List.set_cons_zero, List.set_cons_succ]
      refine wpAnyF_take (i := 5) (v := .pointer (some ⟨q, o + k * 3, none⟩)) rfl (by kernel_rfl) (by kernel_rfl) (by kernel_rfl) (by kernel_rfl) (fun _ _ _ h => h) (Or.inl ⟨by rfl, ?_⟩) hS0 ?_
      · intro Y hY
        skip
        go_simp
      simp only [Act.put, List.getElem_toArray, List.getElem_cons_succ, List.getElem_cons_zero, List.setIfInBounds_toArray, List.set_cons_zero, List.set_cons_succ]
      refine wpAnyF_take (i := 6) (v := .string ⟨ad.toArray⟩) rfl (by kernel_rfl) (by kernel_rfl) (by kernel_rfl) (by kernel_rfl) (fun _ _ _ h => h) (Or.inl ⟨by rfl, ?_⟩) hS0 ?_
      · intro Y hY
        obtain ⟨d0, d1, d2⟩ := HAW.out Y hY
        go_simp
      simp only [Act.put, List.getElem_toArray, List.getElem_cons_succ, List.getElem_cons_zero, List.setIfInBounds_toArray, List.set_cons_zero, List.set_cons_succ]
      refine wpAnyF_take (i := 8) (v := .slice (some ⟨q, o, none⟩) ls.length cap) rfl (by kernel_rfl) (by kernel_rfl) (by kernel_rfl) (by kernel_rfl) (fun _ _ _ h => h) (Or.inl ⟨by rfl, ?_⟩) hS0 ?_
      · intro Y hY
        skip
        go_simp
      simp only [Act.put, List.getElem_toArray, List.getElem_cons_succ, List.getElem_cons_zero, List.setIfInBounds_toArray, List.set_cons_zero, List.set_cons_succ]
      refine wpAnyF_take (i := 9) (v := .int .i64 (k : Nat)) rfl (by kernel_rfl) (by kernel_rfl) (by kernel_rfl) (by kernel_rfl) (fun _ _ _ h => h) (Or.inl ⟨by rfl, ?_⟩) hS0 ?_
      · intro Y hY
        skip
        go_simp
      simp only [Act.put, List.getElem_toArray, List.getElem_cons_succ, List.getElem_cons_zero, List.setIfInBounds_toArray, List.set_cons_zero, List.set_cons_succ]
      refine wpAnyF_take (i := 10) (v := .pointer (some ⟨q, o + k * 3, none⟩)) rfl (by kernel_rfl) (by kernel_rfl) (by kernel_rfl) (by kernel_rfl) (fun _ _ _ h => h) (Or.inl ⟨by rfl, ?_⟩) hS0 ?_
      · intro Y hY
        skip
        go_simp
      simp only [Act.put, List.getElem_toArray, List.getElem_cons_succ, List.getElem_cons_zero, List.setIfInBounds_toArray, List.set_cons_zero, List.set_cons_succ]
      refine wpAnyF_take (i := 11) (v := .pointer (some ⟨q, o + k * 3 + 1, none⟩)) rfl (by kernel_rfl) (by kernel_rfl) (by kernel_rfl) (by kernel_rfl) (fun _ _ _ h => h) (Or.inl ⟨by rfl, ?_⟩) hS0 ?_
      · intro Y hY
        skip
        go_simp
      simp only [Act.put, List.getElem_toArray, List.getElem_cons_succ, List.getElem_cons_zero, List.setIfInBounds_toArray, List.set_cons_zero, List.set_cons_succ]
      refine wpAnyF_take (i := 12) (v := .slice ta tp.length tc) rfl (by kernel_rfl) (by kernel_rfl) (by kernel_rfl) (by kernel_rfl) (fun _ _ _ h => h) (Or.inl ⟨by rfl, ?_⟩) hS0 ?_
      · intro Y hY
        obtain ⟨d0, d1, d2⟩ := HAW.out Y hY
        go_simp
      simp only [Act.put, List.getElem_toArray, List.getElem_cons_succ, List.getElem_cons_zero, List.setIfInBounds_toArray, List.set_cons_zero, List.set_cons_succ]
      refine wpAnyF_take (i := 14) (v := .slice (some ⟨q, o, none⟩) ls.length cap) rfl (by kernel_rfl) (by kernel_rfl) (by kernel_rfl) (by kernel_rfl) (fun _ _ _ h => h) (Or.inl ⟨by rfl, ?_⟩) hS0 ?_
      · intro Y hY
        skip
        go_simp
      simp only [Act.put, List.getElem_toArray, List.getElem_cons_succ, List.getElem_cons_zero, List.setIfInBounds_toArray, List.set_cons_zero, List.set_cons_succ]
      refine wpAnyF_take (i := 15) (v := .int .i64 (k : Nat)) rfl (by kernel_rfl) (by kernel_rfl) (by kernel_rfl) (by kernel_rfl) (fun _ _ _ h => h) (Or.inl ⟨by rfl, ?_⟩) hS0 ?_
      · intro Y hY
        skip
        go_simp
      simp only [Act.put, List.getElem_toArray, List.getElem_cons_succ, List.getElem_cons_zero, List.setIfInBounds_toArray, List.set_cons_zero, List.set_cons_succ]
      refine wpAnyF_take (i := 16) (v := .pointer (some ⟨q, o + k * 3, none⟩)) rfl (by kernel_rfl) (by kernel_rfl) (by kernel_rfl) (by kernel_rfl) (fun _ _ _ h => h) (Or.inl ⟨by rfl, ?_⟩) hS0 ?_
      · intro Y hY
        skip
        go_simp
      simp only [Act.put, List.getElem_toArray, List.getElem_cons_succ, List.getElem_cons_zero, List.setIfInBounds_toArray, List.set_cons_zero, List.set_cons_succ]
      refine wpAnyF_take (i := 17) (v := .pointer (some ⟨q, o + k * 3 + 2, none⟩)) rfl (by kernel_rfl) (by kernel_rfl) (by kernel_rfl) (by kernel_rfl) (fun _ _ _ h => h) (Or.inl ⟨by rfl, ?_⟩) hS0 ?_
      · intro Y hY
        skip
        go_simp
      simp only [Act.put, List.getElem_toArray, List.getElem_cons_succ, List.getElem_cons_zero, List.setIfInBounds_toArray, List.set_cons_zero, List.set_cons_succ]
      refine wpAnyF_take (i := 18) (v := .string ⟨dt.toArray⟩) rfl (by kernel_rfl) (by kernel_rfl) (by kernel_rfl) (by kernel_rfl) (fun _ _ _ h => h) (Or.inl ⟨by rfl, ?_⟩) hS0 ?_
      · intro Y hY
        obtain ⟨d0, d1, d2⟩ := HAW.out Y hY
        go_simp
      simp only [Act.put, List.getElem_toArray, List.getElem_cons_succ, List.getElem_cons_zero, List.setIfInBounds_toArray, List.set_cons_zero, List.set_cons_succ]
      refine wpAnyF_one (i := 7) (by kernel_rfl) rfl rfl (fun K hK => ?_)
      go_simp
      refine (rf_text ad _).mono ?_
      rintro e w1 ⟨rfl, hb1⟩
      have hB1 : Below wr.heap.size wr w1 := hB0.trans (Below.mono hb1 hB0.size)
      have hS1 : wr.grownBy w1 v.ownBlock := grown_of hB1
      try go_wp2_with fail
      refine hK.out _ _ hS1 (fun _ => ?_)
      clear hK K
      simp only [List.setIfInBounds_toArray, List.set_cons_zero, List.set_cons_succ]
      refine wpAnyF_one (i := 13) (by kernel_rfl) rfl rfl (fun K hK => ?_)
      go_simp
      refine (rf_textsF tp ta tc w1 (HTT.out w1 hB1) ht6).mono ?_
      rintro e w2 ⟨⟨va, vc, rfl, hT2⟩, hb2⟩
      have hB2 : Below wr.heap.size wr w2 := hB1.trans (Below.mono hb2 hB1.size)
      have hS2 : wr.grownBy w2 v.ownBlock := grown_of hB2
      try go_wp2_with fail
      refine hK.out _ _ hS2 (fun _ => ?_)
      clear hK K
      simp only [List.setIfInBounds_toArray, List.set_cons_zero, List.set_cons_succ]
      refine wpAnyF_one (i := 19) (by kernel_rfl) rfl rfl (fun K hK => ?_)
      go_simp
      refine (rf_text dt _).mono ?_
      rintro e w3 ⟨rfl, hb3⟩
      have hB3 : Below wr.heap.size wr w3 := hB2.trans (Below.mono hb3 hB2.size)
      have hS3 : wr.grownBy w3 v.ownBlock := grown_of hB3
      have hT3 := hT2.from_ hb3
      try go_wp2_with fail
      refine hK.out _ _ hS3 (fun _ => ?_)
      clear hK K
      simp only [List.setIfInBounds_toArray, List.set_cons_zero, List.set_cons_succ]
      refine wpAnyF_one (i := 20) (by kernel_rfl) rfl rfl (fun K hK => ?_)
      go_simp
      obtain ⟨w4, hw4⟩ : ∃ w4, w3.alloc (.cells #[.bool false, .string ⟨ad.toArray⟩, .slice none 0 0, .bool true, .string ⟨#[]⟩, .slice va tp.length vc, .bool false, .string ⟨dt.toArray⟩, .slice none 0 0] 44) = w4 := ⟨_, rfl⟩
      have hB4 : Below wr.heap.size wr w4 := by rw [← hw4]; exact hB3.alloc hB3.size _
      have hS4 : wr.grownBy w4 v.ownBlock := grown_of hB4
      rw [hw4]
      refine hK.out _ _ hS4 (fun _ => ?_)
      clear hK K
      simp only [List.setIfInBounds_toArray, List.set_cons_zero, List.set_cons_succ]
      refine wpAnyF_one (i := 21) (by kernel_rfl) rfl rfl (fun K hK => ?_)
      go_simp
      refine (rf_listI (some ⟨w3.heap.size, 0, none⟩) 3 3 w4).mono ?_
      rintro e w5 ⟨rfl, hb5⟩
      have hB5 : Below wr.heap.size wr w5 := hB4.trans (Below.mono hb5 hB4.size)
      have hS5 : wr.grownBy w5 v.ownBlock := grown_of hB5
      try go_wp2_with fail
      refine hK.out _ _ hS5 (fun _ => ?_)
      clear hK K
      simp only [List.setIfInBounds_toArray, List.set_cons_zero, List.set_cons_succ]
      refine wpAnyF_one (i := 22) (by kernel_rfl) rfl rfl (fun K hK => ?_)
      go_simp
      obtain ⟨w6, hw6⟩ : ∃ w6, w5.alloc (.cells #[.bool true, .string ⟨#[]⟩, .slice (some ⟨w3.heap.size, 0, none⟩) 3 3] 44) = w6 := ⟨_, rfl⟩
      have hB6 : Below wr.heap.size wr w6 := by rw [← hw6]; exact hB5.alloc hB5.size _
      have hS6 : wr.grownBy w6 v.ownBlock := grown_of hB6
      rw [hw6]
      refine hK.out _ _ hS6 (fun _ => ?_)
      clear hK K
      simp only [List.setIfInBounds_toArray, List.set_cons_zero, List.set_cons_succ]
      have hz4 : w4.heap.size = w3.heap.size + 1 := by rw [← hw4]; simp
      have hb46 : Below w4.heap.size w4 w6 := by rw [← hw6]; exact hb5.alloc hb5.size _
      have hrow6 : w6.heap[w3.heap.size]? = some (.cells #[.bool false, .string ⟨ad.toArray⟩, .slice none 0 0, .bool true, .string ⟨#[]⟩, .slice va tp.length vc, .bool false, .string ⟨dt.toArray⟩, .slice none 0 0] 44 (0, 0)) := (hb46.block _ (by omega)).trans (by rw [← hw4]; exact heap_alloc_new w3 _)
      have hF6 : Fresh w1.heap.size w6 (tp.map M.textI) (.slice va tp.length vc) := hT3.from_ (((Below.refl _ w3).alloc (Nat.le_refl _) _).trans (hw4 ▸ hb46.mono (by omega)))
      have hT6 : TB (w.heap.size + 2) g w0 w6 L v := HT.out.kept hgs (by omega) hB6
      have hl3 := hB3.size
      have hl1 := hB1.size
      have hKid : Fresh wr.heap.size w6 [M.textI ad, M.listI (tp.map M.textI), M.textI dt] (.slice (some ⟨w3.heap.size, 0, none⟩) 3 3) := three_fresh hrow6 hl3 (by have := hB6.size; have := hb46.size; omega) (hF6.mono hl1)
      have hgZ : some g ≠ v.ownBlock := HOWN.out g (by omega)
      have hvl : ∀ j, v.ownBlock = some j → j < wr.heap.size := fun j e => (World.ownsRow.lt HT.out.row.own j e).2
      have hB26 : w.heap.size + 2 ≤ w6.heap.size := by have := hB6.size; omega
      have hlen : L.length ≤ 100000 := by
        have := congrArg List.length HLM.out
        rw [List.length_map, List.length_map, List.length_take] at this
        omega
      have hnews : ∀ j x, ([.bool true, .string ⟨([] : List UInt8).toArray⟩, .slice (some ⟨w3.heap.size, 0, none⟩) 3 3] : List Value)[j]? = some x → w6.cell? ((⟨w5.heap.size, 0, none⟩ : Addr).add j) = some x := by
        intro j x hx
        rw [← hw6, addr_add, World.cell?_alloc_at _ _ _ _ (by simp)]
        simpa using hx
      obtain ⟨v', w7, hr7, hrow7, hg7, hloc7⟩ := item_append hT6.row hB26 hlen 42 ⟨w5.heap.size, 0, none⟩ 1 true [] [M.textI ad, M.listI (tp.map M.textI), M.textI dt] (.slice (some ⟨w3.heap.size, 0, none⟩) 3 3) hnews rfl (LayS.wider hKid (fun j ⟨h1, h2⟩ => ⟨by omega, h2, fun e => by have := hvl j e.symm; omega⟩))
      obtain ⟨va7, vc7, rfl⟩ : ∃ a c, v' = .slice a (L.length + 1) c := by obtain ⟨a, c, h⟩ := hrow7.slice; exact ⟨a, c, by simpa using h⟩
      have hS7 : wr.grownBy w7 v.ownBlock := grown_trans hS6 hg7
      refine wpAnyF_one (i := 23) (by kernel_rfl) rfl rfl (fun K hK => ?_)
      rw [if_pos (by rfl)]
      refine wp_append_runG _ _ _ rfl _ _ (.slice va7 (L.length + 1) vc7) rfl rfl hr7 ?_
      refine hK.out _ _ hS7 (fun _ => ?_)
      clear hK K
      simp only [Act.put, List.getElem_toArray, List.getElem_cons_succ, List.getElem_cons_zero, List.setIfInBounds_toArray, List.set_cons_zero, List.set_cons_succ]
      refine wpAnyF_take (i := 24) (v := .pointer (some ⟨g, 2, none⟩)) rfl (by kernel_rfl) (by kernel_rfl) (by kernel_rfl) (by kernel_rfl) (fun _ _ _ h => h) (Or.inl ⟨by rfl, ?_⟩) hS7 ?_
      · intro Y hY
        skip
        go_simp
      simp only [Act.put, List.getElem_toArray, List.getElem_cons_succ, List.getElem_cons_zero, List.setIfInBounds_toArray, List.set_cons_zero, List.set_cons_succ]
      have hbox7 : w7.heap[g]? = some (.cells #[.bool true, .string ⟨#[]⟩, v] 44 (0, 0)) := (hg7.block g (by have := hB6.size; omega) hgZ).trans hT6.box
      obtain ⟨⟨_, z0⟩, ⟨_, z1⟩, ⟨_, z2⟩, y0, y1, y2⟩ := cells_three hbox7
      refine wpAnyF_last (by kernel_rfl) rfl (fun K hK => ?_)
      go_simp
      refine hK.out _ _ ?_
      clear hK K
      refine wpAnyF_done (by kernel_rfl) ?_ _
      have hset := heap_setCell_same w7 g 2 _ 44 (.slice va7 (L.length + 1) vc7) hbox7
      have hB7 : Below g w6 w7 := ⟨hg7.os, hg7.tape, hg7.output, hg7.size, fun j hj => hg7.block j (by have := hB6.size; omega) (HOWN.out j (by omega))⟩
      have hTe : TB (w.heap.size + 2) g w0 (w7.setCell ⟨g, 2, none⟩ (.slice va7 (L.length + 1) vc7)) (L ++ [(.mk true [] [M.textI ad, M.listI (tp.map M.textI), M.textI dt], .slice (some ⟨w3.heap.size, 0, none⟩) 3 3)]) (.slice va7 (L.length + 1) vc7) :=
        ⟨hset, hrow7.setCell ⟨g, 2, none⟩ _ (by show g < _; omega), hT6.below.trans (hB7.trans ⟨rfl, rfl, rfl, by simp [World.setCell], fun j hj => Below.heap_setCell _ _ _ _ (by simp; omega)⟩)⟩
      have hze : w0.heap.size ≤ (w7.setCell ⟨g, 2, none⟩ (.slice va7 (L.length + 1) vc7)).heap.size := by have := HSZ.out; have := hS7.size; simp [World.setCell]; omega
      have hLe : (L ++ [(M.It.mk true [] [M.textI ad, M.listI (tp.map M.textI), M.textI dt], Value.slice (some ⟨w3.heap.size, 0, none⟩) 3 3)]).map (·.1) = (ls.take (k + 1)).map M.logI := by
        rw [List.map_append, HLM.out, List.take_add_one, HXL.out, List.map_append]
        rfl
      have HTE := Lib.hid hTe
      have HZE := Lib.hid hze
      have HLE := Lib.hid hLe
      clear hTe hze hLe hset hB7 hbox7 hr7 hrow7 hnews
      go_wp2_with fail
      go_roundw
      case rel => exact ⟨k + 1, _, _, by omega, by simp, HLE.out, HTE.out, HZE.out⟩
      case measure => simp [RowKit.intOf]; omega
    · obtain rfl : k = ls.length := by omega
      rw [List.take_length] at hLm
      have hLl : L.length = ls.length := by simpa using congrArg List.length hLm
      obtain ⟨va, vc, hv⟩ := hT.row.slice
      rw [hLl] at hv
      subst hv
      have c0 : wr.cell? ⟨g, 0, none⟩ = some (.bool true) := by simp [World.cell?, hT.box]
      have c1 : wr.cell? ⟨g, 1, none⟩ = some (.string ⟨#[]⟩) := by simp [World.cell?, hT.box]
      have c2 : wr.cell? ⟨g, 2, none⟩ = some (.slice va ls.length vc) := by simp [World.cell?, hT.box]
      have hrow := (hT.below.block w.heap.size (by omega)).trans hrow0
      obtain ⟨⟨_, z0⟩, ⟨_, z1⟩, ⟨_, z2⟩, y0, y1, y2⟩ := cells_three hrow
      have hF := hT.row.fresh
      rw [hLm] at hF
      have HROW := Lib.hid hrow
      have HF := Lib.hid hF
      have HWR := Lib.hid hwr
      clear hLm hT hrow hF hwr
      go_wp2_with fail
      refine rf_post rfl w wr _ true [] (.slice va ls.length vc) w.heap.size (Nat.le_refl _) HWR.out _ _ _ HROW.out _ rfl (fun Z hZ hz ho => ⟨⟨va, vc, rfl, ?_⟩, hZ⟩)
      exact LayS.keep HF.out (T := fun b => w.heap.size ≤ b ∧ b < Z.heap.size) (W := Z) fun b ⟨h1, h2⟩ => ⟨⟨by omega, by omega⟩, ho b (by omega)⟩
end Go.Proofs.YtcbggjdpjjdfmaaGreatDoor
namespace Go.Proofs.YtcbggjdpjjdfmaaGreatDoor
open Go Go.RowKit

end Go.Proofs.YtcbggjdpjjdfmaaGreatDoor
namespace Go.Proofs.YtcbggjdpjjdfmaaGreatDoor
open Go Go.RowKit

set_option maxRecDepth 100000 in
set_option maxHeartbeats 4000000 in
theorem rhead (n p : Nat) (w : World) (hn : n < 4611686018427387904) (hp : p ≤ 192) :
    Calls Tryz.prog 90 #[.int .i64 (n : Nat), .int .i64 (p : Nat)] w fun e w' => e = .returned (.string ⟨(M.hdL n p).toArray⟩) ∧ Below w.heap.size w w' := by
  have hconv : ∀ (W : World) (b : Nat) (c : UInt8), W.cell? ⟨b, 0, none⟩ = some (.int .u8 (c.toNat : Int)) → (convert 75 9 (.slice (some ⟨b, 0, none⟩) 1 1)).run Tryz.prog W = .ok (.string ⟨#[c]⟩) W := fun W b c h0 => conv_at [c] W b (fun j hj => by match j, hj with | 0, _ => exact h0)
  have HC := Lib.hid hconv
  clear hconv
  by_cases h56 : n < 56
  · obtain ⟨c, hc⟩ : ∃ c : UInt8, c = UInt8.ofNat (p + n) := ⟨_, rfl⟩
    have e : M.hdL n p = [c] := by unfold M.hdL; rw [if_pos h56, hc]
    have hcn : c.toNat = p + n := by rw [hc]; exact ofNat_at (by omega)
    have hw : IntKind.u8.wrap ((p : Int) + (n : Int)) = ((c.toNat : Nat) : Int) := wrap_u8 (by omega)
    have hcv := fun W b => HC.out W b c
    rw [e]
    clear hc e
    go_enter Tryz.func90, Tryz.ntmps90
    go_wp2_with fail
    go_ret
    refine ⟨rfl, ?_⟩
    (repeat (first | exact Below.refl _ _ | refine Below.drew ?_ | refine Below.alloc ?_ (by first | omega | (simp; omega) | simp) _ | refine Below.setCell ?_ (by first | omega | (simp; omega) | simp) _))
  · have e : M.hdL n p = UInt8.ofNat (p + 55 + (M.ben n).length) :: M.ben n := by unfold M.hdL; rw [if_neg h56]
    have hbl := M.ben_le (n := n) (by omega)
    have hbe := fun w => rnbe_any n w (by omega)
    have hbb : M.tr (M.f32 n) = M.ben n := rfl
    rw [hbb] at hbe
    clear hbb
    generalize M.ben n = bn at *
    obtain ⟨c, hc⟩ : ∃ c : UInt8, c = UInt8.ofNat (p + 55 + bn.length) := ⟨_, rfl⟩
    rw [← hc] at e
    have hcn : c.toNat = p + 55 + bn.length := by rw [hc]; exact ofNat_at (by omega)
    have hw : IntKind.u8.wrap ((p : Int) + 55 + (bn.length : Int)) = ((c.toNat : Nat) : Int) := wrap_u8 (by omega)
    have hcv := fun W b => HC.out W b c
    rw [e]
    clear hc e
    have HB := Lib.hid hbe
    clear hbe
    go_enter Tryz.func90, Tryz.ntmps90
    go_wp2_with fail
    refine (HB.out _).mono ?_
    rintro e w1 ⟨rfl, hb1⟩
    go_wp2_with fail
    go_ret
    exact ⟨congrArg (fun b => Ending.returned (.string b)) (cat_eq [c] bn), hb1.alloc hb1.size _⟩
end Go.Proofs.YtcbggjdpjjdfmaaGreatDoor
