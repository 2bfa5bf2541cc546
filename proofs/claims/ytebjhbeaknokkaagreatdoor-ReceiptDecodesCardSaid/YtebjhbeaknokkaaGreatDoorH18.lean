/- The reference of layer 11: Decode, with the kind of a deposit. The reference of layer 11: Decode of any bytes. ReceiptOnly, walked. The reference of layer 11: logs. The reference of layer 11: Check. Regions that draw their order, whose operations read, or call what keeps a class of worlds. The reference of layer 11: Same. ReceiptDecodes, walked. The variables that the cards of layer 11 list: the handle of 'error'; a world that holds them. ReceiptDecodes: the statement: for every input the call returns true and each argument reads as it did. The listed library tables are tied to the text (the card). Its condition: none beyond the card's own words. -/
import Derived.Test.YtebjhbeaknokkaaGreatDoorH17
import Derived.Test.YtebjhbeaknokkaaGreatDoorH15
import Derived.Test.YtebjhbeaknokkaaGreatDoorH01
import Derived.Deep.Quiet
import Derived.Deep.QuietTactic
import Derived.Test.YtebjhbeaknokkaaGreatDoorH10
import Derived.Test.YtebjhbeaknokkaaGreatDoorH06
import Derived.Test.YtebjhbeaknokkaaGreatDoorRows
import Derived.ProofKit
import Derived.OpenShut
import Derived.LaidLaws
import Derived.LaidHandle
import Derived.LaidSub
import Derived.Lay
import Derived.Stop.Joined
import Derived.Test.YtebjhbeaknokkaaGreatDoorCards
import Derived.Test.YtebjhbeaknokkaaGreatDoorTie
import Derived.ShutString
import Derived.ChangeOld
import Derived.Below
import Derived.LaidMore
import Derived.SevenTiedAt
open List renaming getElem_toArray → zqA, getElem_cons_succ → zqB, getElem_cons_zero → zqC, setIfInBounds_toArray → zqD, set_cons_zero → zqE, set_cons_succ → zqF
namespace Go.Proofs.YtebjhbeaknokkaaGreatDoor
open Go Go.RowKit Go.Lib
attribute [local go_sem] Oper.semAt_some

set_option maxRecDepth 100000 in
set_option maxHeartbeats 16000000 in
theorem rdec11_dep (r : List UInt8) (w : World) (hs : ((126 : UInt8) :: r).length ≤ 65536) : Calls Tryz.prog 16 #[.string ⟨((126 : UInt8) :: r).toArray⟩] w (DrP ((126 : UInt8) :: r) w) := by
  have mixed : Tryz.prog.follows .mixedOrders = true := by kernel_rfl
  have hne : ((⟨((126 : UInt8) :: r).toArray⟩ : ByteArray) == ⟨#[]⟩) = false := by rfl
  have hix : ∀ hk : 0 < (⟨((126 : UInt8) :: r).toArray⟩ : ByteArray).size, (⟨((126 : UInt8) :: r).toArray⟩ : ByteArray)[0]'hk = 126 := idx_at (by rfl)
  have hsl := slice_from ((126 : UInt8) :: r) 1 (by simp)
  rw [List.drop_one, List.tail_cons] at hsl
  have HSL := Lib.hid hsl
  clear hsl
  have hext : (⟨((126 : UInt8) :: r).toArray⟩ : ByteArray).extract 1 (r.length + 1) = ⟨r.toArray⟩ := by rw [cutS]; simp
  have hs' : r.length ≤ 65536 := by simp only [List.length_cons] at hs; omega
  have hD := M.decR_behind (s := (126 : UInt8) :: r) (t := r) (k := 126) (by rfl) (by rw [M.headR, if_neg (by decide)]; rfl)
  have hmp : ((M.mostP 126 : Nat) : Int) = 5 := by rfl
  obtain ⟨w0, hw0⟩ : ∃ w0, w.alloc (.cells #[.int .i64 0, .bool false, .int .u64 0, .slice none 0 0, .bool false, .int .u64 0, .int .u64 0] 25) = w0 := ⟨_, rfl⟩
  have hb0 : Below w.heap.size w w0 := by rw [← hw0]; exact (Below.refl _ _).alloc (Nat.le_refl _) _
  have hrow0 : w0.heap[w.heap.size]? = some (.cells #[.int .i64 0, .bool false, .int .u64 0, .slice none 0 0, .bool false, .int .u64 0, .int .u64 0] 25 (0, 0)) := by rw [← hw0]; exact heap_alloc_new w _
  have hlt0 : w.heap.size < w0.heap.size := by rw [← hw0]; simp
  obtain ⟨⟨_, z0⟩, ⟨_, z1⟩, ⟨_, z2⟩, ⟨_, z3⟩, ⟨_, z4⟩, ⟨_, z5⟩, ⟨_, z6⟩, y4⟩ := cells_seven hrow0
  have HW0 := Lib.hid hw0
  have HB0 := Lib.hid hb0
  have HR0 := Lib.hid hrow0
  clear hw0 hb0 hrow0
  have HM : Hid (Calls Tryz.prog 17 #[.int .i64 126] w0 fun e w' => e = .returned (.int .i64 8) ∧ Below w0.heap.size w0 w') := Lib.hid (rmany_any 126 w0)
  unfold M.decP at hD
  have HD := Lib.hid hD
  clear hD
  go_enter Tryz.func16, Tryz.ntmps16
  go_wp2_with (first | rw [HW0.out] | rw [HSL.out])
  refine HM.out.mono ?_
  rintro e wm ⟨rfl, hbm⟩
  have hrowm := (hbm.block _ hlt0).trans HR0.out
  have hgm := HB0.out.trans (hbm.mono (Nat.le_of_lt hlt0))
  have hltm : w.heap.size < wm.heap.size := Nat.lt_of_lt_of_le hlt0 hbm.size
  have HD5 := Lib.hid ((rdec5_any (r) wm hs').mono fun _ _ h => h.ok)
  have HRM := Lib.hid hrowm
  have HGM := Lib.hid hgm
  clear hrowm hgm hbm
  go_wp2_with fail
  refine HD5.out.mono ?_
  rintro e w1 ⟨l, b, xs, a, cap, rfl, hx, hfr, hb1⟩
  have hrow1 := (hb1.block _ hltm).trans HRM.out
  have hlt1 : w.heap.size < w1.heap.size := Nat.lt_of_lt_of_le hltm hb1.size
  have hg1 := HGM.out.trans (hb1.mono (Nat.le_of_lt hltm))
  have hd := HD.out
  rw [hx] at hd
  generalize (M.decodeL (r)).2 = er at *
  clear HD HD5 hx
  clear z0 z1 z2 z3 z4 z5 z6 y4
  obtain ⟨w2, hw2⟩ : ∃ w2, w1.alloc (.cells #[.bool l, .string ⟨b.toArray⟩, .slice a xs.length cap] 44) = w2 := ⟨_, rfl⟩
  have hb2 : Below w1.heap.size w1 w2 := by rw [← hw2]; exact (Below.refl _ _).alloc (Nat.le_refl _) _
  have hg2 : w2.heap[w1.heap.size]? = some (.cells #[.bool l, .string ⟨b.toArray⟩, .slice a xs.length cap] 44 (0, 0)) := by rw [← hw2]; exact heap_alloc_new w1 _
  have x0 : w2.cell? ⟨w1.heap.size, 0, none⟩ = some (.bool l) := by simp [World.cell?, hg2]
  have x1 : w2.cell? ⟨w1.heap.size, 1, none⟩ = some (.string ⟨b.toArray⟩) := by simp [World.cell?, hg2]
  have x2 : w2.cell? ⟨w1.heap.size, 2, none⟩ = some (.slice a xs.length cap) := by simp [World.cell?, hg2]
  have hrow2 := (hb2.block _ hlt1).trans hrow1
  have hgw2 := hg1.trans (hb2.mono (Nat.le_of_lt hlt1))
  have hlt2 : w.heap.size < w2.heap.size := Nat.lt_of_lt_of_le hlt1 hb2.size
  have hL2 := (hfr.lay).keptW hb2
  have HW2 := Lib.hid hw2
  have HR2 := Lib.hid hrow2
  have HG2 := Lib.hid hgw2
  have HL2 := Lib.hid hL2
  clear hw2 hg2 hrow1 hfr hg1 hL2 hb1
  obtain ⟨⟨_, z0⟩, ⟨_, z1⟩, ⟨_, z2⟩, ⟨_, z3⟩, ⟨_, z4⟩, ⟨_, z5⟩, ⟨_, z6⟩, y4⟩ := cells_seven hrow2
  clear hrow2 hgw2 hb2
  by_cases her : er = 0
  · subst her
    rw [if_neg (by simp)] at hd
    have HG := Lib.hid (rgl_any l b xs a cap 3 5 w2)
    have HD := Lib.hid hd
    clear hd
    go_wp2_with (rw [HW2.out])
    refine HG.out.mono ?_
    rintro e w3 ⟨rfl, hb3⟩
    have hd := HD.out
    rw [show ((M.mostP (126) : Nat) : Int) = 5 from hmp, show ((126 : Nat) : Int) = 126 from rfl] at hd
    have hok := @M.getList_ok 3 5 (.mk l b xs)
    have hln := @M.getList_len 3 5 (.mk l b xs)
    generalize M.getList 3 5 (.mk l b xs) = q at *
    obtain ⟨ys, f⟩ := q
    dsimp only at hd hok hln
    have hrow3 := (hb3.block _ hlt2).trans HR2.out
    have hgw3 := HG2.out.trans (hb3.mono (Nat.le_of_lt hlt2))
    have hlt3 : w.heap.size < w3.heap.size := Nat.lt_of_lt_of_le hlt2 hb3.size
    have hL3 := HL2.out.keptW hb3
    clear HG HD z0 z1 z2 z3 z4 z5 z6 y4
    obtain ⟨⟨_, z0⟩, ⟨_, z1⟩, ⟨_, z2⟩, ⟨_, z3⟩, ⟨_, z4⟩, ⟨_, z5⟩, ⟨_, z6⟩, y4⟩ := cells_seven hrow3
    have HR3 := Lib.hid hrow3
    have HG3 := Lib.hid hgw3
    have HL3 := Lib.hid hL3
    clear hrow3 hgw3 hL3 hb3 x0 x1 x2
    by_cases hf : f = 0
    · subst hf
      obtain ⟨_, _, hxe, hys⟩ := hok rfl
      cases hxe
      subst hys
      obtain ⟨l1, l2⟩ := hln rfl
      rw [if_neg (by simp)] at hd
      have HO := Lib.hid (rofN_any 126 ys (by omega) (by omega) a cap w3 HL3.out)
      generalize M.ofR 126 ys = p at *
      obtain ⟨⟨k1, st, ga, ls, fu, no, ve⟩, n⟩ := p
      dsimp only at hd HO
      have HD := Lib.hid hd
      clear hd hok hln l1 l2
      go_wp2_with fail
      refine HO.out.mono ?_
      rintro e w4 ⟨⟨v, rfl, L4⟩, hb4⟩
      obtain ⟨av, cv, rfl, _, _⟩ := L4.slice
      have hrow4 := (hb4.block _ hlt3).trans HR3.out
      have hgw4 := HG3.out.trans (hb4.mono (Nat.le_of_lt hlt3))
      have hlt4 : w.heap.size < w4.heap.size := Nat.lt_of_lt_of_le hlt3 hb4.size
      clear z0 z1 z2 z3 z4 z5 z6 y4
      obtain ⟨w5, hw5⟩ : ∃ w5, w4.alloc (.cells #[.int .i64 k1, .bool st, .int .u64 (ga : Nat), .slice av ls.length cv, .bool fu, .int .u64 (no : Nat), .int .u64 (ve : Nat), .int .i64 (n : Nat)] 70) = w5 := ⟨_, rfl⟩
      have hb5 : Below w4.heap.size w4 w5 := by rw [← hw5]; exact (Below.refl _ _).alloc (Nat.le_refl _) _
      have g5 : w5.heap[w4.heap.size]? = some (.cells #[.int .i64 k1, .bool st, .int .u64 (ga : Nat), .slice av ls.length cv, .bool fu, .int .u64 (no : Nat), .int .u64 (ve : Nat), .int .i64 (n : Nat)] 70 (0, 0)) := by rw [← hw5]; exact heap_alloc_new w4 _
      have hrow5 := (hb5.block _ hlt4).trans hrow4
      have hgw5 := hgw4.trans (hb5.mono (Nat.le_of_lt hlt4))
      have c0 : w5.cell? ⟨w4.heap.size, 0, none⟩ = some (.int .i64 k1) := by simp [World.cell?, g5]
      have c1 : w5.cell? ⟨w4.heap.size, 1, none⟩ = some (.bool st) := by simp [World.cell?, g5]
      have c2 : w5.cell? ⟨w4.heap.size, 2, none⟩ = some (.int .u64 (ga : Nat)) := by simp [World.cell?, g5]
      have c3 : w5.cell? ⟨w4.heap.size, 3, none⟩ = some (.slice av ls.length cv) := by simp [World.cell?, g5]
      have c4 : w5.cell? ⟨w4.heap.size, 4, none⟩ = some (.bool fu) := by simp [World.cell?, g5]
      have c5 : w5.cell? ⟨w4.heap.size, 5, none⟩ = some (.int .u64 (no : Nat)) := by simp [World.cell?, g5]
      have c6 : w5.cell? ⟨w4.heap.size, 6, none⟩ = some (.int .u64 (ve : Nat)) := by simp [World.cell?, g5]
      have c7 : w5.cell? ⟨w4.heap.size, 7, none⟩ = some (.int .i64 (n : Nat)) := by simp [World.cell?, g5]
      obtain ⟨⟨_, z0⟩, ⟨_, z1⟩, ⟨_, z2⟩, ⟨_, z3⟩, ⟨_, z4⟩, ⟨_, z5⟩, ⟨_, z6⟩, y4⟩ := cells_seven hrow5
      have HL5 := Lib.hid (L4.kept hb5)
      have HR5 := Lib.hid hrow5
      have HG5 := Lib.hid hgw5
      have HW5 := Lib.hid hw5
      clear hrow4 hgw4 hrow5 hgw5 L4 hb4 hb5 g5 hw5 HO
      by_cases hn : n = 0
      · subst hn
        have hd := HD.out
        rw [if_neg (by simp)] at hd
        have HDD := Lib.hid hd
        have hwz : w4.alloc (.cells #[.int .i64 k1, .bool st, .int .u64 (ga : Nat), .slice av ls.length cv, .bool fu, .int .u64 (no : Nat), .int .u64 (ve : Nat), .int .i64 0] 70) = w5 := HW5.out
        have HWZ := Lib.hid hwz
        have c7' : w5.cell? ⟨w4.heap.size, 7, none⟩ = some (.int .i64 0) := c7
        clear hd HD hwz HW5 c7
        go_wp2_with (rw [HWZ.out])
        rw [set_seven HR5.out]
        refine rcd_row rfl w5 _ #[.int .i64 k1, .bool st, .int .u64 (ga : Nat), .slice av ls.length cv, .bool fu, .int .u64 (no : Nat), .int .u64 (ve : Nat)] _ rfl w.heap.size 0 HR5.out _ rfl rfl ?_
        unfold DrP
        rw [HDD.out]
        refine ⟨⟨_, rfl, ?_⟩, HG5.out.trans ⟨rfl, rfl, rfl, by rw [setRow_size]; exact Nat.le_refl _, fun i hi => setRow_other _ _ _ _ (by omega)⟩⟩
        rw [setRow_size]
        exact HL5.out.rowN (NoTxt.rc rfl HR5.out) _
      · have hn' : ¬ ((n : Nat) : Int) = 0 := by omega
        have hd := HD.out
        rw [if_pos hn] at hd
        have HDD := Lib.hid hd
        clear hd HD z0 z1 z2 z3 z4 z5 z6
        go_wp2_with (rw [HW5.out])
        refine wp_region_held (S := D8 w w4.heap.size n) mixed ?_
        have hS0 : D8 w w4.heap.size n w5.drew := ⟨HG5.out.drew, ⟨_, _, _, _, _, _, _, HR5.out⟩, c7⟩
        rw [show Array.replicate (Array.size _) false = #[false, false, false, false, false] from rfl, show Array.size (α := Oper) _ = 5 from rfl]
        refine wpAnyH_take (i := 0) (v := .agg #[.int .i64 0, .bool false, .int .u64 0, .slice none 0 0, .bool false, .int .u64 0, .int .u64 0]) rfl (by kernel_rfl) (by kernel_rfl) (by kernel_rfl) (fun _ _ _ h => h) (Or.inl ⟨by rfl, ?_⟩) hS0 ?_
        · intro Y hY
          skip
          go_simp
        simp only [Act.put, zqA, zqC, zqD, zqE, zqF]
        refine wpAnyH_take (i := 1) (v := .pointer (some ⟨w4.heap.size, 7, none⟩)) rfl (by kernel_rfl) (by kernel_rfl) (by kernel_rfl) (fun _ _ _ h => h) (Or.inl ⟨by rfl, ?_⟩) hS0 ?_
        · intro Y hY
          skip
          go_simp
        simp only [Act.put, zqA, zqB, zqC, zqD, zqE, zqF]
        refine wpAnyH_take (i := 2) (v := .int .i64 (n : Nat)) rfl (by kernel_rfl) (by kernel_rfl) (by kernel_rfl) (fun _ _ _ h => h) (Or.inl ⟨by rfl, ?_⟩) hS0 ?_
        · intro Y hY
          have c4 := hY.2.2
          go_simp
        simp only [Act.put, zqA, zqB, zqC, zqD, zqE, zqF]
        refine wpAnyH_ready (rs := [3]) (by kernel_rfl) (by simp) ?_
        refine AllReadyH.cons rfl (fun K hK => ?_) AllReadyH.nil
        have hrowD : w5.drew.heap[w.heap.size]? = _ := HR5.out
        obtain ⟨⟨_, z0⟩, ⟨_, z1⟩, ⟨_, z2⟩, ⟨_, z3⟩, ⟨_, z4⟩, ⟨_, z5⟩, ⟨_, z6⟩, y4⟩ := cells_seven HR5.out
        go_simp
        rw [set_seven HR5.out]
        have hS5 : D8 w w4.heap.size n (w5.drew.setRow w.heap.size #[.int .i64 0, .bool false, .int .u64 0, .slice none 0 0, .bool false, .int .u64 0, .int .u64 0]) := ⟨HG5.out.drew.trans ⟨rfl, rfl, rfl, by simp, fun j hj => setRow_other _ _ _ _ (by omega)⟩, ⟨_, _, _, _, _, _, _, setRow_heap _ _ _ _ _ (0, 0) hrowD⟩, by
          rw [World.cell?_of_block (a := ⟨w4.heap.size, 7, none⟩) (setRow_other _ _ _ _ (show w4.heap.size ≠ w.heap.size by omega))]
          exact c7⟩
        refine hK.out _ _ hS5 (fun _ => ?_)
        clear hK K
        simp only [List.setIfInBounds_toArray, List.set_cons_zero, List.set_cons_succ]
        refine wpAnyH_take (i := 4) (v := .int .i64 (n : Nat)) rfl (by kernel_rfl) (by kernel_rfl) (by kernel_rfl) (fun _ _ _ h => h) (Or.inl ⟨by rfl, ?_⟩) hS5 ?_
        · intro Y hY
          skip
          go_simp
        simp only [Act.put, zqA, zqB, zqC, zqD, zqE, zqF]
        refine wpAnyH_done (by kernel_rfl) ?_ _
        go_wp2_with fail
        show bodyPost _ _ _ .ret _ (w5.drew.setRow w.heap.size #[.int .i64 0, .bool false, .int .u64 0, .slice none 0 0, .bool false, .int .u64 0, .int .u64 0])
        exact dec11_zero rfl _ w w5.drew _ n HDD.out HG5.out.drew ⟨_, _, _, _, _, _, _, hrowD⟩ rfl rfl
    · have hf' : ¬ ((f : Nat) : Int) = 0 := by omega
      have hv : (if f = 0 then Value.slice a xs.length cap else .slice none 0 0) = .slice none 0 0 := if_neg hf
      rw [if_pos hf] at hd
      have HDD := Lib.hid hd
      clear hd hok hln
      go_wp2_with fail
      rw [set_seven HR3.out]
      exact dec11_zero rfl _ w w3 _ f HDD.out HG3.out ⟨_, _, _, _, _, _, _, HR3.out⟩ rfl rfl
  · have her' : ¬ ((er : Nat) : Int) = 0 := by omega
    rw [if_pos her] at hd
    have HDD := Lib.hid hd
    clear hd
    go_wp2_with (rw [HW2.out])
    rw [set_seven HR2.out]
    exact dec11_zero rfl _ w w2 _ er HDD.out HG2.out ⟨_, _, _, _, _, _, _, HR2.out⟩ rfl rfl
end Go.Proofs.YtebjhbeaknokkaaGreatDoor
namespace Go.Proofs.YtebjhbeaknokkaaGreatDoor
open Go Go.RowKit Go.Lib

theorem rdec11_any (s : List UInt8) (w : World) (hs : s.length ≤ 65536) : Calls Tryz.prog 16 #[.string ⟨s.toArray⟩] w (DrP s w) := by
  cases s with
  | nil => exact rdec11_nil w
  | cons c r =>
    by_cases hc : 192 ≤ c.toNat
    · exact rdec11_leg c r w hc hs
    · have hc' : c.toNat < 192 := by omega
      have hz := M.manyK_zero (c.toNat : Nat)
      have hkk : kdOf (c :: r) = if c.toNat = 1 ∨ c.toNat = 2 ∨ c.toNat = 4 ∨ c.toNat = 126 then (c.toNat, 0) else (0, 9) := by rw [kdOf, if_neg hc]
      by_cases h : c.toNat = 1 ∨ c.toNat = 2 ∨ c.toNat = 4 ∨ c.toNat = 126
      · rw [if_pos h] at hkk
        have hm : M.manyK (c.toNat : Nat) ≠ 0 := by rcases h with h | h | h | h <;> rw [h] <;> decide
        by_cases h6 : c.toNat = 126
        · have hc26 : c = 126 := UInt8.toNat_inj.1 (by rw [h6]; rfl)
          subst hc26
          exact rdec11_dep r w hs
        · exact rdec11_typ c r w hc' (by omega) hm h6 hkk hs
      · rw [if_neg h] at hkk
        refine rdec11_bad c r w hc' ?_ (by rw [hkk])
        by_cases h0 : c.toNat = 0
        · exact .inl h0
        · refine .inr ?_
          unfold M.manyK
          rw [if_neg (by omega), if_neg (by omega), if_neg (by omega), if_neg (by omega), if_neg (by omega)]
end Go.Proofs.YtebjhbeaknokkaaGreatDoor
namespace Go.Proofs.YtebjhbeaknokkaaGreatDoor
open Go Go.RowKit Go.Lib
attribute [local go_sem] Oper.semAt_some

theorem decR_no {s : List UInt8} (h : (M.decR s).2 ≠ 0) : (M.decR s).1 = zR := by
  unfold M.decR at h ⊢
  by_cases h0 : (M.rdRc s).2 = 0
  · rw [if_pos h0] at h; exact absurd h0 h
  · rw [if_neg h0]; rfl
end Go.Proofs.YtebjhbeaknokkaaGreatDoor
namespace Go.Proofs.YtebjhbeaknokkaaGreatDoor
open Go Go.RowKit Go.Lib
attribute [local go_sem] Oper.semAt_some

end Go.Proofs.YtebjhbeaknokkaaGreatDoor
namespace Go.Proofs.YtebjhbeaknokkaaGreatDoor
open Go Go.RowKit Go.Lib
attribute [local go_sem] Oper.semAt_some

end Go.Proofs.YtebjhbeaknokkaaGreatDoor
namespace Go.Proofs.YtebjhbeaknokkaaGreatDoor
open Go Go.RowKit

section
variable {P : Program} {ops : Array Oper} {C : World → Prop} {Q : Act → Prop} {o : Oper} {rest : List Oper} {a : Act}
end
end Go.Proofs.YtebjhbeaknokkaaGreatDoor
namespace Go.Proofs.YtebjhbeaknokkaaGreatDoor
open Go Go.RowKit Go.Lib
attribute [local go_sem] Oper.semAt_some

def FewR (ls : List M.Lg) : Prop := ls.length ≤ 1000 ∧ ∀ g ∈ ls, g.topics.length ≤ 1000
set_option maxRecDepth 100000 in
set_option maxHeartbeats 8000000 in
theorem rsameR_any (k : Int) (st : Bool) (ga : Nat) (ls : List M.Lg) (fu : Bool) (no ve : Nat) (k2 : Int) (st2 : Bool) (ga2 : Nat) (ms : List M.Lg) (fu2 : Bool) (no2 ve2 : Nat) (a : Option Addr) (ca : Nat) (b : Option Addr) (cb : Nat) (w : World)
    (hA : Ls w w.heap.size ls (.slice a ls.length ca)) (hB : Ls w w.heap.size ms (.slice b ms.length cb)) (hF : FewR ls) (hG : FewR ms) :
    Calls Tryz.prog 11 #[.agg #[.int .i64 k, .bool st, .int .u64 (ga : Nat), .slice a ls.length ca, .bool fu, .int .u64 (no : Nat), .int .u64 (ve : Nat)], .agg #[.int .i64 k2, .bool st2, .int .u64 (ga2 : Nat), .slice b ms.length cb, .bool fu2, .int .u64 (no2 : Nat), .int .u64 (ve2 : Nat)]] w fun e w' => e = .returned (.bool (M.sameR ⟨k, st, ga, ls, fu, no, ve⟩ ⟨k2, st2, ga2, ms, fu2, no2, ve2⟩)) ∧ Below w.heap.size w w' := by
  have mixed : Tryz.prog.follows .mixedOrders = true := by kernel_rfl
  obtain ⟨h, hh⟩ : ∃ h, w.heap.size = h := ⟨_, rfl⟩
  obtain ⟨w0, hw0⟩ : ∃ w0, (w.alloc (.cells #[.int .i64 k, .bool st, .int .u64 (ga : Nat), .slice a ls.length ca, .bool fu, .int .u64 (no : Nat), .int .u64 (ve : Nat)] 25)).alloc (.cells #[.int .i64 k2, .bool st2, .int .u64 (ga2 : Nat), .slice b ms.length cb, .bool fu2, .int .u64 (no2 : Nat), .int .u64 (ve2 : Nat)] 25) = w0 := ⟨_, rfl⟩
  have hb0 : Below w.heap.size w w0 := by rw [← hw0]; (repeat (first | exact Below.refl _ _ | refine Below.drew ?_ | refine Below.alloc ?_ (by first | omega | (simp; omega) | simp) _ | refine Below.setCell ?_ (by first | omega | (simp; omega) | simp) _))
  have hx0 : B7 w0 h (.int .i64 k) (.bool st) (.int .u64 (ga : Nat)) (.slice a ls.length ca) (.bool fu) (.int .u64 (no : Nat)) (.int .u64 (ve : Nat)) := by
    rw [← hw0, ← hh]
    exact (B7.new w _ _ _ _ _ _ _ _).from_ ((Below.refl _ _).alloc (Nat.le_refl _) _)
  have hy0 : B7 w0 (h + 1) (.int .i64 k2) (.bool st2) (.int .u64 (ga2 : Nat)) (.slice b ms.length cb) (.bool fu2) (.int .u64 (no2 : Nat)) (.int .u64 (ve2 : Nat)) := by
    rw [← hw0, ← hh]
    have := B7.new (w.alloc (.cells #[.int .i64 k, .bool st, .int .u64 (ga : Nat), .slice a ls.length ca, .bool fu, .int .u64 (no : Nat), .int .u64 (ve : Nat)] 25)) (.int .i64 k2) (.bool st2) (.int .u64 (ga2 : Nat)) (.slice b ms.length cb) (.bool fu2) (.int .u64 (no2 : Nat)) (.int .u64 (ve2 : Nat)) 25
    rwa [World.size_alloc] at this
  obtain ⟨R, hR⟩ : ∃ R, M.sameR ⟨k, st, ga, ls, fu, no, ve⟩ ⟨k2, st2, ga2, ms, fu2, no2, ve2⟩ = R := ⟨_, rfl⟩
  rw [hR]
  have HR := Lib.hid hR
  have HX0 := Lib.hid hx0
  have HY0 := Lib.hid hy0
  have HB0 := Lib.hid hb0
  have HW0 := Lib.hid hw0
  have HH := Lib.hid hh
  have HA := Lib.hid (hA.kept hb0)
  have HB := Lib.hid (hB.kept hb0)
  have HF := Lib.hid hF
  have HG := Lib.hid hG
  have hl9 := hF.1
  have hm9 := hG.1
  clear hR hx0 hy0 hb0 hw0 hA hB hF hG hh
  by_cases hk : k = k2
  case neg =>
    have hn : R = false := by
      rw [← HR.out]
      exact Bool.eq_false_iff.2 fun e => hk (by have := M.sameR_iff.1 e; injection this)
    subst hn
    have n1 : (k != k2) = true := by simp [hk]
    obtain ⟨c0, c1, c2, c3, c4, c5, c6⟩ := HX0.out
    obtain ⟨e0, e1, e2, e3, e4, e5, e6⟩ := HY0.out
    clear HR
    go_enter Tryz.func11, Tryz.ntmps11
    go_wp2_with (first | rw [HW0.out] | rw [HH.out])
    go_ret
    exact ⟨rfl, by first | exact HB0.out | exact (HH.out ▸ HB0.out)⟩

  subst hk
  by_cases hs : st = st2
  case neg =>
    have hn : R = false := by
      rw [← HR.out]
      exact Bool.eq_false_iff.2 fun e => hs (by have := M.sameR_iff.1 e; injection this)
    subst hn
    have n1 : (st != st2) = true := by simp [hs]
    obtain ⟨c0, c1, c2, c3, c4, c5, c6⟩ := HX0.out
    obtain ⟨e0, e1, e2, e3, e4, e5, e6⟩ := HY0.out
    clear HR
    go_enter Tryz.func11, Tryz.ntmps11
    go_wp2_with (first | rw [HW0.out] | rw [HH.out])
    go_ret
    exact ⟨rfl, by first | exact HB0.out | exact (HH.out ▸ HB0.out)⟩

  subst hs
  by_cases hg : ga = ga2
  case neg =>
    have hn : R = false := by
      rw [← HR.out]
      exact Bool.eq_false_iff.2 fun e => hg (by have := M.sameR_iff.1 e; injection this)
    subst hn
    have n1 : ((ga : Int) != (ga2 : Int)) = true := by simp; omega
    obtain ⟨c0, c1, c2, c3, c4, c5, c6⟩ := HX0.out
    obtain ⟨e0, e1, e2, e3, e4, e5, e6⟩ := HY0.out
    clear HR
    go_enter Tryz.func11, Tryz.ntmps11
    go_wp2_with (first | rw [HW0.out] | rw [HH.out])
    go_ret
    exact ⟨rfl, by first | exact HB0.out | exact (HH.out ▸ HB0.out)⟩

  subst hg
  by_cases hf : fu = fu2
  case neg =>
    have hn : R = false := by
      rw [← HR.out]
      exact Bool.eq_false_iff.2 fun e => hf (by have := M.sameR_iff.1 e; injection this)
    subst hn
    have n1 : (fu != fu2) = true := by simp [hf]
    obtain ⟨c0, c1, c2, c3, c4, c5, c6⟩ := HX0.out
    obtain ⟨e0, e1, e2, e3, e4, e5, e6⟩ := HY0.out
    clear HR
    go_enter Tryz.func11, Tryz.ntmps11
    go_wp2_with (first | rw [HW0.out] | rw [HH.out])
    go_ret
    exact ⟨rfl, by first | exact HB0.out | exact (HH.out ▸ HB0.out)⟩

  subst hf
  by_cases hn2 : no = no2
  case neg =>
    have hn : R = false := by
      rw [← HR.out]
      exact Bool.eq_false_iff.2 fun e => hn2 (by have := M.sameR_iff.1 e; injection this)
    subst hn
    have n1 : ((no : Int) != (no2 : Int)) = true := by simp; omega
    obtain ⟨c0, c1, c2, c3, c4, c5, c6⟩ := HX0.out
    obtain ⟨e0, e1, e2, e3, e4, e5, e6⟩ := HY0.out
    clear HR
    go_enter Tryz.func11, Tryz.ntmps11
    go_wp2_with (first | rw [HW0.out] | rw [HH.out])
    go_ret
    exact ⟨rfl, by first | exact HB0.out | exact (HH.out ▸ HB0.out)⟩

  subst hn2
  by_cases hv : ve = ve2
  case neg =>
    have hn : R = false := by
      rw [← HR.out]
      exact Bool.eq_false_iff.2 fun e => hv (by have := M.sameR_iff.1 e; injection this)
    subst hn
    have n1 : ((ve : Int) != (ve2 : Int)) = true := by simp; omega
    obtain ⟨c0, c1, c2, c3, c4, c5, c6⟩ := HX0.out
    obtain ⟨e0, e1, e2, e3, e4, e5, e6⟩ := HY0.out
    clear HR
    go_enter Tryz.func11, Tryz.ntmps11
    go_wp2_with (first | rw [HW0.out] | rw [HH.out])
    go_ret
    exact ⟨rfl, by first | exact HB0.out | exact (HH.out ▸ HB0.out)⟩

  subst hv
  by_cases hl : ls.length = ms.length
  case neg =>
    have hn : R = false := by
      rw [← HR.out]
      exact Bool.eq_false_iff.2 fun e => hl (by have := M.sameR_iff.1 e; injection this with q0 q1 q2 q3; rw [q3])
    subst hn
    have n1 : ((ls.length : Int) != (ms.length : Int)) = true := by simp; omega
    obtain ⟨c0, c1, c2, c3, c4, c5, c6⟩ := HX0.out
    obtain ⟨e0, e1, e2, e3, e4, e5, e6⟩ := HY0.out
    clear HR
    go_enter Tryz.func11, Tryz.ntmps11
    go_wp2_with (first | rw [HW0.out] | rw [HH.out])
    go_ret
    exact ⟨rfl, by first | exact HB0.out | exact (HH.out ▸ HB0.out)⟩

  have n1 : ((ls.length : Int) != (ms.length : Int)) = false := by simp; omega
  have HLEN := Lib.hid hl
  obtain ⟨c0, c1, c2, c3, c4, c5, c6⟩ := HX0.out
  obtain ⟨e0, e1, e2, e3, e4, e5, e6⟩ := HY0.out
  clear hl
  go_enter Tryz.func11, Tryz.ntmps11
  go_wp2_with (first | rw [HW0.out] | rw [HH.out])
  clear c0 c1 c2 c3 c4 c5 c6 e0 e1 e2 e3 e4 e5 e6 n1
  go_loopw [5] (fun i wr => ∃ j : Nat, j ≤ ls.length ∧ i = .int .i64 (j : Nat) ∧ ls.take j = ms.take j ∧ Below w0.heap.size w0 wr) (fun i _ => ls.length - (RowKit.intOf i).toNat)
  case atStart => exact ⟨0, Nat.zero_le _, rfl, by simp, Below.refl _ _⟩
  case round =>
    obtain ⟨j, hj, rfl, hq, hW⟩ := hrel
    obtain ⟨c0, c1, c2, c3, c4, c5, c6⟩ := HX0.out.from_ hW
    clear c0 c1 c2 c4 c5 c6
    by_cases hlt : j < ls.length
    · have hlt2 : j < ms.length := by have := HLEN.out; omega
      obtain ⟨q, o, g, ta, tc, rfl, hqn, hx, k0, k1, k2, hT1⟩ := HA.out.at_ hlt
      obtain ⟨q2, o2, g2, ta2, tc2, rfl, hqn2, hy, m0, m1, m2, hT2⟩ := HB.out.at_ hlt2
      have ht1 := HF.out.2 g (List.mem_of_getElem? hx)
      have ht2 := HG.out.2 g2 (List.mem_of_getElem? hy)
      have HX1 := Lib.hid hx
      have HY1 := Lib.hid hy
      have HQ := Lib.hid hq
      have HWW := Lib.hid hW
      obtain ⟨ad, tp, dt⟩ := g
      obtain ⟨ad2, tp2, dt2⟩ := g2
      dsimp only at k0 k1 k2 m0 m1 m2 hT1 hT2 ht1 ht2
      have HXW := Lib.hid (fun W (hC : Below wr.heap.size wr W) => (HX0.out.from_ hW).from_ hC)
      have HYW := Lib.hid (fun W (hC : Below wr.heap.size wr W) => (HY0.out.from_ hW).from_ hC)
      have HAW := Lib.hid (fun W (hC : Below wr.heap.size wr W) => (show W.cell? ⟨q, o + j * 3, none⟩ = some (.string ⟨ad.toArray⟩) ∧ W.cell? ⟨q, o + j * 3 + 1, none⟩ = some (.slice ta tp.length tc) ∧ W.cell? ⟨q, o + j * 3 + 2, none⟩ = some (.string ⟨dt.toArray⟩) from
        have hB := hW.trans (hC.mono hW.size)
        ⟨(hB.cell (p := ⟨q, _, none⟩) hqn).trans k0, (hB.cell (p := ⟨q, _, none⟩) hqn).trans k1, (hB.cell (p := ⟨q, _, none⟩) hqn).trans k2⟩))
      have HBW := Lib.hid (fun W (hC : Below wr.heap.size wr W) => (show W.cell? ⟨q2, o2 + j * 3, none⟩ = some (.string ⟨ad2.toArray⟩) ∧ W.cell? ⟨q2, o2 + j * 3 + 1, none⟩ = some (.slice ta2 tp2.length tc2) ∧ W.cell? ⟨q2, o2 + j * 3 + 2, none⟩ = some (.string ⟨dt2.toArray⟩) from
        have hB := hW.trans (hC.mono hW.size)
        ⟨(hB.cell (p := ⟨q2, _, none⟩) hqn2).trans m0, (hB.cell (p := ⟨q2, _, none⟩) hqn2).trans m1, (hB.cell (p := ⟨q2, _, none⟩) hqn2).trans m2⟩))
      have HTX := Lib.hid (fun W (hC : Below wr.heap.size wr W) => rtexts_any tp tp2 ta ta2 tc tc2 W (hT1.kept_ (hW.trans (hC.mono hW.size))) (hT2.kept_ (hW.trans (hC.mono hW.size))) ht1 ht2)
      have hj9 : j < 1000 := by omega
      have hlti : (j : Int) < (ls.length : Int) := by omega
      have hlti2 : (j : Int) < (ms.length : Int) := by omega
      clear hx hy hq k0 k1 k2 m0 m1 m2 hT1 hT2 ht1 ht2 hqn hqn2 hW hlt hlt2 hj
      obtain ⟨qt, hqt⟩ : ∃ qt, decide (tp = tp2) = qt := ⟨_, rfl⟩
      rw [hqt] at HTX
      have HQT := Lib.hid hqt
      clear hqt
      go_wp2_with fail
      refine wp_region_held (S := Below wr.heap.size wr) mixed ?_
      have hS0 : Below wr.heap.size wr wr.drew := (Below.refl _ _).drew
      rw [show Array.replicate (Array.size _) false = #[false, false, false, false, false, false, false, false, false, false, false, false, false, false] from rfl, show Array.size (α := Oper) _ = 14 from rfl]
      refine wpAnyH_take (i := 0) (v := .pointer (some ⟨h, 3, none⟩)) rfl (by kernel_rfl) (by kernel_rfl) (by kernel_rfl) (fun _ _ _ h => h) (Or.inl ⟨by rfl, ?_⟩) hS0 ?_
      · intro Y hY
        skip
        go_simp
      simp only [Act.put, zqA, zqC, zqD, zqE, zqF]
      refine wpAnyH_take (i := 1) (v := .slice (some ⟨q, o, none⟩) ls.length ca) rfl (by kernel_rfl) (by kernel_rfl) (by kernel_rfl) (fun _ _ _ h => h) (Or.inl ⟨by rfl, ?_⟩) hS0 ?_
      · intro Y hY
        obtain ⟨c0, c1, c2, c3, c4, c5, c6⟩ := HXW.out Y hY
        go_simp
      simp only [Act.put, zqA, zqB, zqC, zqD, zqE, zqF]
      refine wpAnyH_take (i := 2) (v := .int .i64 (j : Nat)) rfl (by kernel_rfl) (by kernel_rfl) (by kernel_rfl) (fun _ _ _ h => h) (Or.inl ⟨by rfl, ?_⟩) hS0 ?_
      · intro Y hY
        skip
        go_simp
      simp only [Act.put, zqA, zqB, zqC, zqD, zqE, zqF]
      refine wpAnyH_take (i := 3) (v := .pointer (some ⟨q, o + j * 3, none⟩)) rfl (by kernel_rfl) (by kernel_rfl) (by kernel_rfl) (fun _ _ _ h => h) (Or.inl ⟨by rfl, ?_⟩) hS0 ?_
      · intro Y hY
        skip
        go_simp
      simp only [Act.put, zqA, zqB, zqC, zqD, zqE, zqF]
      refine wpAnyH_take (i := 4) (v := .pointer (some ⟨q, o + j * 3 + 1, none⟩)) rfl (by kernel_rfl) (by kernel_rfl) (by kernel_rfl) (fun _ _ _ h => h) (Or.inl ⟨by rfl, ?_⟩) hS0 ?_
      · intro Y hY
        skip
        go_simp
      simp only [Act.put, zqA, zqB, zqC, zqD, zqE, zqF]
      refine wpAnyH_take (i := 5) (v := .slice ta tp.length tc) rfl (by kernel_rfl) (by kernel_rfl) (by kernel_rfl) (fun _ _ _ h => h) (Or.inl ⟨by rfl, ?_⟩) hS0 ?_
      · intro Y hY
        obtain ⟨d0, d1, d2⟩ := HAW.out Y hY
        go_simp
      simp only [Act.put, zqA, zqB, zqC, zqD, zqE, zqF]
      refine wpAnyH_take (i := 6) (v := .pointer (some ⟨h + 1, 3, none⟩)) rfl (by kernel_rfl) (by kernel_rfl) (by kernel_rfl) (fun _ _ _ h => h) (Or.inl ⟨by rfl, ?_⟩) hS0 ?_
      · intro Y hY
        skip
        go_simp
      simp only [Act.put, zqA, zqB, zqC, zqD, zqE, zqF]
      refine wpAnyH_take (i := 7) (v := .slice (some ⟨q2, o2, none⟩) ms.length cb) rfl (by kernel_rfl) (by kernel_rfl) (by kernel_rfl) (fun _ _ _ h => h) (Or.inl ⟨by rfl, ?_⟩) hS0 ?_
      · intro Y hY
        obtain ⟨c0, c1, c2, c3, c4, c5, c6⟩ := HYW.out Y hY
        go_simp
      simp only [Act.put, zqA, zqB, zqC, zqD, zqE, zqF]
      refine wpAnyH_take (i := 8) (v := .int .i64 (j : Nat)) rfl (by kernel_rfl) (by kernel_rfl) (by kernel_rfl) (fun _ _ _ h => h) (Or.inl ⟨by rfl, ?_⟩) hS0 ?_
      · intro Y hY
        skip
        go_simp
      simp only [Act.put, zqA, zqB, zqC, zqD, zqE, zqF]
      refine wpAnyH_take (i := 9) (v := .pointer (some ⟨q2, o2 + j * 3, none⟩)) rfl (by kernel_rfl) (by kernel_rfl) (by kernel_rfl) (fun _ _ _ h => h) (Or.inl ⟨by rfl, ?_⟩) hS0 ?_
      · intro Y hY
        skip
        go_simp
      simp only [Act.put, zqA, zqB, zqC, zqD, zqE, zqF]
      refine wpAnyH_take (i := 10) (v := .pointer (some ⟨q2, o2 + j * 3 + 1, none⟩)) rfl (by kernel_rfl) (by kernel_rfl) (by kernel_rfl) (fun _ _ _ h => h) (Or.inl ⟨by rfl, ?_⟩) hS0 ?_
      · intro Y hY
        skip
        go_simp
      simp only [Act.put, zqA, zqB, zqC, zqD, zqE, zqF]
      refine wpAnyH_take (i := 11) (v := .slice ta2 tp2.length tc2) rfl (by kernel_rfl) (by kernel_rfl) (by kernel_rfl) (fun _ _ _ h => h) (Or.inl ⟨by rfl, ?_⟩) hS0 ?_
      · intro Y hY
        obtain ⟨d0, d1, d2⟩ := HBW.out Y hY
        go_simp
      simp only [Act.put, zqA, zqB, zqC, zqD, zqE, zqF]
      refine wpAnyH_ready (rs := [12]) (by kernel_rfl) (by simp) ?_
      refine AllReadyH.cons rfl (fun K hK => ?_) AllReadyH.nil
      go_simp
      refine (HTX.out _ hS0).mono ?_
      rintro e w6 ⟨rfl, hb6⟩
      have hS6 : Below wr.heap.size wr w6 := hS0.trans (Below.mono hb6 hS0.size)
      try go_wp2_with fail
      refine hK.out _ _ hS6 (fun _ => ?_)
      clear hK K
      simp only [List.setIfInBounds_toArray, List.set_cons_zero, List.set_cons_succ]
      refine wpAnyH_take (i := 13) (v := .bool qt) rfl (by kernel_rfl) (by kernel_rfl) (by kernel_rfl) (fun _ _ _ h => h) (Or.inl ⟨by rfl, ?_⟩) hS6 ?_
      · intro Y hY
        skip
        go_simp
      simp only [Act.put, zqA, zqB, zqC, zqD, zqE, zqF]
      refine wpAnyH_done (by kernel_rfl) ?_ _
      go_wp2_with fail
      have hNO : (⟨ad, tp, dt⟩ : M.Lg) ≠ ⟨ad2, tp2, dt2⟩ → R = false := fun hne => by
        rw [← HR.out]
        exact Bool.eq_false_iff.2 fun e => by
          have e1 := M.sameR_iff.1 e
          injection e1 with q0 q1 q2 q3
          have e2 := HX1.out
          rw [q3, HY1.out] at e2
          exact hne (Option.some.inj e2).symm
      have HNO := Lib.hid hNO
      clear hNO
      by_cases ha : ad = ad2
      · by_cases hd : dt = dt2
        · have HEA := Lib.hid ha
          have HED := Lib.hid hd
          cases qt with
          | true =>
            have hnx : ls.take (j + 1) = ms.take (j + 1) := by
              have e1 := HX1.out
              rw [ha, hd, of_decide_eq_true HQT.out] at e1
              rw [List.take_add_one, List.take_add_one, HQ.out, e1, HY1.out]
            have HNX := Lib.hid hnx
            clear hnx ha hd
            refine wp_region_held (S := Below wr.heap.size wr) mixed ?_
            have hS7 : Below wr.heap.size wr w6.drew := Below.drew hS6
            rw [show Array.replicate (Array.size _) false = #[false, false, false, false, false, false, false, false, false, false, false, false, false, false, false, false, false, false, false, false, false, false, false, false, false, false, false, false, false, false, false, false] from rfl, show Array.size (α := Oper) _ = 32 from rfl]
            refine wpAnyH_take (i := 0) (v := .pointer (some ⟨h, 3, none⟩)) rfl (by kernel_rfl) (by kernel_rfl) (by kernel_rfl) (fun _ _ _ h => h) (Or.inl ⟨by rfl, ?_⟩) hS7 ?_
            · intro Y hY
              skip
              go_simp
            simp only [Act.put, zqA, zqC, zqD, zqE, zqF]
            refine wpAnyH_take (i := 1) (v := .slice (some ⟨q, o, none⟩) ls.length ca) rfl (by kernel_rfl) (by kernel_rfl) (by kernel_rfl) (fun _ _ _ h => h) (Or.inl ⟨by rfl, ?_⟩) hS7 ?_
            · intro Y hY
              obtain ⟨c0, c1, c2, c3, c4, c5, c6⟩ := HXW.out Y hY
              go_simp
            simp only [Act.put, zqA, zqB, zqC, zqD, zqE, zqF]
            refine wpAnyH_take (i := 2) (v := .int .i64 (j : Nat)) rfl (by kernel_rfl) (by kernel_rfl) (by kernel_rfl) (fun _ _ _ h => h) (Or.inl ⟨by rfl, ?_⟩) hS7 ?_
            · intro Y hY
              skip
              go_simp
            simp only [Act.put, zqA, zqB, zqC, zqD, zqE, zqF]
            refine wpAnyH_take (i := 3) (v := .pointer (some ⟨q, o + j * 3, none⟩)) rfl (by kernel_rfl) (by kernel_rfl) (by kernel_rfl) (fun _ _ _ h => h) (Or.inl ⟨by rfl, ?_⟩) hS7 ?_
            · intro Y hY
              skip
              go_simp
            simp only [Act.put, zqA, zqB, zqC, zqD, zqE, zqF]
            refine wpAnyH_take (i := 4) (v := .pointer (some ⟨q, o + j * 3, none⟩)) rfl (by kernel_rfl) (by kernel_rfl) (by kernel_rfl) (fun _ _ _ h => h) (Or.inl ⟨by rfl, ?_⟩) hS7 ?_
            · intro Y hY
              skip
              go_simp
            simp only [Act.put, zqA, zqB, zqC, zqD, zqE, zqF]
            refine wpAnyH_take (i := 5) (v := .string ⟨ad.toArray⟩) rfl (by kernel_rfl) (by kernel_rfl) (by kernel_rfl) (fun _ _ _ h => h) (Or.inl ⟨by rfl, ?_⟩) hS7 ?_
            · intro Y hY
              obtain ⟨d0, d1, d2⟩ := HAW.out Y hY
              go_simp
            simp only [Act.put, zqA, zqB, zqC, zqD, zqE, zqF]
            refine wpAnyH_take (i := 6) (v := .pointer (some ⟨h + 1, 3, none⟩)) rfl (by kernel_rfl) (by kernel_rfl) (by kernel_rfl) (fun _ _ _ h => h) (Or.inl ⟨by rfl, ?_⟩) hS7 ?_
            · intro Y hY
              skip
              go_simp
            simp only [Act.put, zqA, zqB, zqC, zqD, zqE, zqF]
            refine wpAnyH_take (i := 7) (v := .slice (some ⟨q2, o2, none⟩) ms.length cb) rfl (by kernel_rfl) (by kernel_rfl) (by kernel_rfl) (fun _ _ _ h => h) (Or.inl ⟨by rfl, ?_⟩) hS7 ?_
            · intro Y hY
              obtain ⟨c0, c1, c2, c3, c4, c5, c6⟩ := HYW.out Y hY
              go_simp
            simp only [Act.put, zqA, zqB, zqC, zqD, zqE, zqF]
            refine wpAnyH_take (i := 8) (v := .int .i64 (j : Nat)) rfl (by kernel_rfl) (by kernel_rfl) (by kernel_rfl) (fun _ _ _ h => h) (Or.inl ⟨by rfl, ?_⟩) hS7 ?_
            · intro Y hY
              skip
              go_simp
            simp only [Act.put, zqA, zqB, zqC, zqD, zqE, zqF]
            refine wpAnyH_take (i := 9) (v := .pointer (some ⟨q2, o2 + j * 3, none⟩)) rfl (by kernel_rfl) (by kernel_rfl) (by kernel_rfl) (fun _ _ _ h => h) (Or.inl ⟨by rfl, ?_⟩) hS7 ?_
            · intro Y hY
              skip
              go_simp
            simp only [Act.put, zqA, zqB, zqC, zqD, zqE, zqF]
            refine wpAnyH_take (i := 10) (v := .pointer (some ⟨q2, o2 + j * 3, none⟩)) rfl (by kernel_rfl) (by kernel_rfl) (by kernel_rfl) (fun _ _ _ h => h) (Or.inl ⟨by rfl, ?_⟩) hS7 ?_
            · intro Y hY
              skip
              go_simp
            simp only [Act.put, zqA, zqB, zqC, zqD, zqE, zqF]
            refine wpAnyH_take (i := 11) (v := .string ⟨ad2.toArray⟩) rfl (by kernel_rfl) (by kernel_rfl) (by kernel_rfl) (fun _ _ _ h => h) (Or.inl ⟨by rfl, ?_⟩) hS7 ?_
            · intro Y hY
              obtain ⟨d0, d1, d2⟩ := HBW.out Y hY
              go_simp
            simp only [Act.put, zqA, zqB, zqC, zqD, zqE, zqF]
            refine wpAnyH_take (i := 12) (v := .bool false) rfl (by kernel_rfl) (by kernel_rfl) (by kernel_rfl) (fun _ _ _ h => h) (Or.inl ⟨by rfl, ?_⟩) hS7 ?_
            · intro Y hY
              skip
              go_simp
              first | done | exact HEA.out | exact HED.out
            simp only [Act.put, zqA, zqB, zqC, zqD, zqE, zqF]
            refine wpAnyH_take (i := 13) (v := .bool false) rfl (by kernel_rfl) (by kernel_rfl) (by kernel_rfl) (fun _ _ _ h => h) (Or.inl ⟨by rfl, ?_⟩) hS7 ?_
            · intro Y hY
              skip
              go_simp
            simp only [Act.put, zqA, zqB, zqC, zqD, zqE, zqF]
            refine wpAnyH_take (i := 14) (v := .pointer (some ⟨h, 3, none⟩)) rfl (by kernel_rfl) (by kernel_rfl) (by kernel_rfl) (fun _ _ _ h => h) (Or.inl ⟨by rfl, ?_⟩) hS7 ?_
            · intro Y hY
              skip
              go_simp
            simp only [Act.put, zqA, zqB, zqC, zqD, zqE, zqF]
            refine wpAnyH_take (i := 15) (v := .slice (some ⟨q, o, none⟩) ls.length ca) rfl (by kernel_rfl) (by kernel_rfl) (by kernel_rfl) (fun _ _ _ h => h) (Or.inl ⟨by rfl, ?_⟩) hS7 ?_
            · intro Y hY
              obtain ⟨c0, c1, c2, c3, c4, c5, c6⟩ := HXW.out Y hY
              go_simp
            simp only [Act.put, zqA, zqB, zqC, zqD, zqE, zqF]
            refine wpAnyH_take (i := 16) (v := .int .i64 (j : Nat)) rfl (by kernel_rfl) (by kernel_rfl) (by kernel_rfl) (fun _ _ _ h => h) (Or.inl ⟨by rfl, ?_⟩) hS7 ?_
            · intro Y hY
              skip
              go_simp
            simp only [Act.put, zqA, zqB, zqC, zqD, zqE, zqF]
            refine wpAnyH_take (i := 17) (v := .pointer (some ⟨q, o + j * 3, none⟩)) rfl (by kernel_rfl) (by kernel_rfl) (by kernel_rfl) (fun _ _ _ h => h) (Or.inl ⟨by rfl, ?_⟩) hS7 ?_
            · intro Y hY
              skip
              go_simp
            simp only [Act.put, zqA, zqB, zqC, zqD, zqE, zqF]
            refine wpAnyH_take (i := 18) (v := .pointer (some ⟨q, o + j * 3 + 2, none⟩)) rfl (by kernel_rfl) (by kernel_rfl) (by kernel_rfl) (fun _ _ _ h => h) (Or.inl ⟨by rfl, ?_⟩) hS7 ?_
            · intro Y hY
              skip
              go_simp
            simp only [Act.put, zqA, zqB, zqC, zqD, zqE, zqF]
            refine wpAnyH_take (i := 19) (v := .string ⟨dt.toArray⟩) rfl (by kernel_rfl) (by kernel_rfl) (by kernel_rfl) (fun _ _ _ h => h) (Or.inl ⟨by rfl, ?_⟩) hS7 ?_
            · intro Y hY
              obtain ⟨d0, d1, d2⟩ := HAW.out Y hY
              go_simp
            simp only [Act.put, zqA, zqB, zqC, zqD, zqE, zqF]
            refine wpAnyH_take (i := 20) (v := .pointer (some ⟨h + 1, 3, none⟩)) rfl (by kernel_rfl) (by kernel_rfl) (by kernel_rfl) (fun _ _ _ h => h) (Or.inl ⟨by rfl, ?_⟩) hS7 ?_
            · intro Y hY
              skip
              go_simp
            simp only [Act.put, zqA, zqB, zqC, zqD, zqE, zqF]
            refine wpAnyH_take (i := 21) (v := .slice (some ⟨q2, o2, none⟩) ms.length cb) rfl (by kernel_rfl) (by kernel_rfl) (by kernel_rfl) (fun _ _ _ h => h) (Or.inl ⟨by rfl, ?_⟩) hS7 ?_
            · intro Y hY
              obtain ⟨c0, c1, c2, c3, c4, c5, c6⟩ := HYW.out Y hY
              go_simp
            simp only [Act.put, zqA, zqB, zqC, zqD, zqE, zqF]
            refine wpAnyH_take (i := 22) (v := .int .i64 (j : Nat)) rfl (by kernel_rfl) (by kernel_rfl) (by kernel_rfl) (fun _ _ _ h => h) (Or.inl ⟨by rfl, ?_⟩) hS7 ?_
            · intro Y hY
              skip
              go_simp
            simp only [Act.put, zqA, zqB, zqC, zqD, zqE, zqF]
            refine wpAnyH_take (i := 23) (v := .pointer (some ⟨q2, o2 + j * 3, none⟩)) rfl (by kernel_rfl) (by kernel_rfl) (by kernel_rfl) (fun _ _ _ h => h) (Or.inl ⟨by rfl, ?_⟩) hS7 ?_
            · intro Y hY
              skip
              go_simp
            simp only [Act.put, zqA, zqB, zqC, zqD, zqE, zqF]
            refine wpAnyH_take (i := 24) (v := .pointer (some ⟨q2, o2 + j * 3 + 2, none⟩)) rfl (by kernel_rfl) (by kernel_rfl) (by kernel_rfl) (fun _ _ _ h => h) (Or.inl ⟨by rfl, ?_⟩) hS7 ?_
            · intro Y hY
              skip
              go_simp
            simp only [Act.put, zqA, zqB, zqC, zqD, zqE, zqF]
            refine wpAnyH_take (i := 25) (v := .string ⟨dt2.toArray⟩) rfl (by kernel_rfl) (by kernel_rfl) (by kernel_rfl) (fun _ _ _ h => h) (Or.inl ⟨by rfl, ?_⟩) hS7 ?_
            · intro Y hY
              obtain ⟨d0, d1, d2⟩ := HBW.out Y hY
              go_simp
            simp only [Act.put, zqA, zqB, zqC, zqD, zqE, zqF]
            refine wpAnyH_take (i := 26) (v := .bool false) rfl (by kernel_rfl) (by kernel_rfl) (by kernel_rfl) (fun _ _ _ h => h) (Or.inl ⟨by rfl, ?_⟩) hS7 ?_
            · intro Y hY
              skip
              go_simp
              first | done | exact HEA.out | exact HED.out
            simp only [Act.put, zqA, zqB, zqC, zqD, zqE, zqF]
            refine wpAnyH_take (i := 27) (v := .bool false) rfl (by kernel_rfl) (by kernel_rfl) (by kernel_rfl) (fun _ _ _ h => h) (Or.inl ⟨by rfl, ?_⟩) hS7 ?_
            · intro Y hY
              skip
              go_simp
            simp only [Act.put, zqA, zqB, zqC, zqD, zqE, zqF]
            refine wpAnyH_take (i := 28) (v := .bool false) rfl (by kernel_rfl) (by kernel_rfl) (by kernel_rfl) (fun _ _ _ h => h) (Or.inl ⟨by rfl, ?_⟩) hS7 ?_
            · intro Y hY
              skip
              go_simp
            simp only [Act.put, zqA, zqB, zqC, zqD, zqE, zqF]
            refine wpAnyH_take (i := 29) (v := .bool true) rfl (by kernel_rfl) (by kernel_rfl) (by kernel_rfl) (fun _ _ _ h => h) (Or.inl ⟨by rfl, ?_⟩) hS7 ?_
            · intro Y hY
              skip
              go_simp
            simp only [Act.put, zqA, zqB, zqC, zqD, zqE, zqF]
            refine wpAnyH_take (i := 30) (v := .bool false) rfl (by kernel_rfl) (by kernel_rfl) (by kernel_rfl) (fun _ _ _ h => h) (Or.inl ⟨by rfl, ?_⟩) hS7 ?_
            · intro Y hY
              skip
              go_simp
            simp only [Act.put, zqA, zqB, zqC, zqD, zqE, zqF]
            refine wpAnyH_take (i := 31) (v := .bool false) rfl (by kernel_rfl) (by kernel_rfl) (by kernel_rfl) (fun _ _ _ h => h) (Or.inl ⟨by rfl, ?_⟩) hS7 ?_
            · intro Y hY
              skip
              go_simp
            simp only [Act.put, zqA, zqB, zqC, zqD, zqE, zqF]
            refine wpAnyH_done (by kernel_rfl) ?_ _
            go_wp2_with fail
            exact ⟨⟨j + 1, by omega, by simp, HNX.out, HWW.out.trans (hS7.mono HWW.out.size)⟩, by simp [RowKit.intOf]; omega⟩
          | false =>
            have hn : R = false := HNO.out (fun e => by injection e with e1 e2 e3; exact of_decide_eq_false HQT.out e2)
            subst hn
            clear ha hd
            refine wp_region_held (S := Below wr.heap.size wr) mixed ?_
            have hS7 : Below wr.heap.size wr w6.drew := Below.drew hS6
            rw [show Array.replicate (Array.size _) false = #[false, false, false, false, false, false, false, false, false, false, false, false, false, false, false, false, false, false, false, false, false, false, false, false, false, false, false, false, false, false, false, false] from rfl, show Array.size (α := Oper) _ = 32 from rfl]
            refine wpAnyH_take (i := 0) (v := .pointer (some ⟨h, 3, none⟩)) rfl (by kernel_rfl) (by kernel_rfl) (by kernel_rfl) (fun _ _ _ h => h) (Or.inl ⟨by rfl, ?_⟩) hS7 ?_
            · intro Y hY
              skip
              go_simp
            simp only [Act.put, zqA, zqC, zqD, zqE, zqF]
            refine wpAnyH_take (i := 1) (v := .slice (some ⟨q, o, none⟩) ls.length ca) rfl (by kernel_rfl) (by kernel_rfl) (by kernel_rfl) (fun _ _ _ h => h) (Or.inl ⟨by rfl, ?_⟩) hS7 ?_
            · intro Y hY
              obtain ⟨c0, c1, c2, c3, c4, c5, c6⟩ := HXW.out Y hY
              go_simp
            simp only [Act.put, zqA, zqB, zqC, zqD, zqE, zqF]
            refine wpAnyH_take (i := 2) (v := .int .i64 (j : Nat)) rfl (by kernel_rfl) (by kernel_rfl) (by kernel_rfl) (fun _ _ _ h => h) (Or.inl ⟨by rfl, ?_⟩) hS7 ?_
            · intro Y hY
              skip
              go_simp
            simp only [Act.put, zqA, zqB, zqC, zqD, zqE, zqF]
            refine wpAnyH_take (i := 3) (v := .pointer (some ⟨q, o + j * 3, none⟩)) rfl (by kernel_rfl) (by kernel_rfl) (by kernel_rfl) (fun _ _ _ h => h) (Or.inl ⟨by rfl, ?_⟩) hS7 ?_
            · intro Y hY
              skip
              go_simp
            simp only [Act.put, zqA, zqB, zqC, zqD, zqE, zqF]
            refine wpAnyH_take (i := 4) (v := .pointer (some ⟨q, o + j * 3, none⟩)) rfl (by kernel_rfl) (by kernel_rfl) (by kernel_rfl) (fun _ _ _ h => h) (Or.inl ⟨by rfl, ?_⟩) hS7 ?_
            · intro Y hY
              skip
              go_simp
            simp only [Act.put, zqA, zqB, zqC, zqD, zqE, zqF]
            refine wpAnyH_take (i := 5) (v := .string ⟨ad.toArray⟩) rfl (by kernel_rfl) (by kernel_rfl) (by kernel_rfl) (fun _ _ _ h => h) (Or.inl ⟨by rfl, ?_⟩) hS7 ?_
            · intro Y hY
              obtain ⟨d0, d1, d2⟩ := HAW.out Y hY
              go_simp
            simp only [Act.put, zqA, zqB, zqC, zqD, zqE, zqF]
            refine wpAnyH_take (i := 6) (v := .pointer (some ⟨h + 1, 3, none⟩)) rfl (by kernel_rfl) (by kernel_rfl) (by kernel_rfl) (fun _ _ _ h => h) (Or.inl ⟨by rfl, ?_⟩) hS7 ?_
            · intro Y hY
              skip
              go_simp
            simp only [Act.put, zqA, zqB, zqC, zqD, zqE, zqF]
            refine wpAnyH_take (i := 7) (v := .slice (some ⟨q2, o2, none⟩) ms.length cb) rfl (by kernel_rfl) (by kernel_rfl) (by kernel_rfl) (fun _ _ _ h => h) (Or.inl ⟨by rfl, ?_⟩) hS7 ?_
            · intro Y hY
              obtain ⟨c0, c1, c2, c3, c4, c5, c6⟩ := HYW.out Y hY
              go_simp
            simp only [Act.put, zqA, zqB, zqC, zqD, zqE, zqF]
            refine wpAnyH_take (i := 8) (v := .int .i64 (j : Nat)) rfl (by kernel_rfl) (by kernel_rfl) (by kernel_rfl) (fun _ _ _ h => h) (Or.inl ⟨by rfl, ?_⟩) hS7 ?_
            · intro Y hY
              skip
              go_simp
            simp only [Act.put, zqA, zqB, zqC, zqD, zqE, zqF]
            refine wpAnyH_take (i := 9) (v := .pointer (some ⟨q2, o2 + j * 3, none⟩)) rfl (by kernel_rfl) (by kernel_rfl) (by kernel_rfl) (fun _ _ _ h => h) (Or.inl ⟨by rfl, ?_⟩) hS7 ?_
            · intro Y hY
              skip
              go_simp
            simp only [Act.put, zqA, zqB, zqC, zqD, zqE, zqF]
            refine wpAnyH_take (i := 10) (v := .pointer (some ⟨q2, o2 + j * 3, none⟩)) rfl (by kernel_rfl) (by kernel_rfl) (by kernel_rfl) (fun _ _ _ h => h) (Or.inl ⟨by rfl, ?_⟩) hS7 ?_
            · intro Y hY
              skip
              go_simp
            simp only [Act.put, zqA, zqB, zqC, zqD, zqE, zqF]
            refine wpAnyH_take (i := 11) (v := .string ⟨ad2.toArray⟩) rfl (by kernel_rfl) (by kernel_rfl) (by kernel_rfl) (fun _ _ _ h => h) (Or.inl ⟨by rfl, ?_⟩) hS7 ?_
            · intro Y hY
              obtain ⟨d0, d1, d2⟩ := HBW.out Y hY
              go_simp
            simp only [Act.put, zqA, zqB, zqC, zqD, zqE, zqF]
            refine wpAnyH_take (i := 12) (v := .bool false) rfl (by kernel_rfl) (by kernel_rfl) (by kernel_rfl) (fun _ _ _ h => h) (Or.inl ⟨by rfl, ?_⟩) hS7 ?_
            · intro Y hY
              skip
              go_simp
              first | done | exact HEA.out | exact HED.out
            simp only [Act.put, zqA, zqB, zqC, zqD, zqE, zqF]
            refine wpAnyH_take (i := 13) (v := .bool false) rfl (by kernel_rfl) (by kernel_rfl) (by kernel_rfl) (fun _ _ _ h => h) (Or.inl ⟨by rfl, ?_⟩) hS7 ?_
            · intro Y hY
              skip
              go_simp
            simp only [Act.put, zqA, zqB, zqC, zqD, zqE, zqF]
            refine wpAnyH_take (i := 14) (v := .pointer (some ⟨h, 3, none⟩)) rfl (by kernel_rfl) (by kernel_rfl) (by kernel_rfl) (fun _ _ _ h => h) (Or.inl ⟨by rfl, ?_⟩) hS7 ?_
            · intro Y hY
              skip
              go_simp
            simp only [Act.put, zqA, zqB, zqC, zqD, zqE, zqF]
            refine wpAnyH_take (i := 15) (v := .slice (some ⟨q, o, none⟩) ls.length ca) rfl (by kernel_rfl) (by kernel_rfl) (by kernel_rfl) (fun _ _ _ h => h) (Or.inl ⟨by rfl, ?_⟩) hS7 ?_
            · intro Y hY
              obtain ⟨c0, c1, c2, c3, c4, c5, c6⟩ := HXW.out Y hY
              go_simp
            simp only [Act.put, zqA, zqB, zqC, zqD, zqE, zqF]
            refine wpAnyH_take (i := 16) (v := .int .i64 (j : Nat)) rfl (by kernel_rfl) (by kernel_rfl) (by kernel_rfl) (fun _ _ _ h => h) (Or.inl ⟨by rfl, ?_⟩) hS7 ?_
            · intro Y hY
              skip
              go_simp
            simp only [Act.put, zqA, zqB, zqC, zqD, zqE, zqF]
            refine wpAnyH_take (i := 17) (v := .pointer (some ⟨q, o + j * 3, none⟩)) rfl (by kernel_rfl) (by kernel_rfl) (by kernel_rfl) (fun _ _ _ h => h) (Or.inl ⟨by rfl, ?_⟩) hS7 ?_
            · intro Y hY
              skip
              go_simp
            simp only [Act.put, zqA, zqB, zqC, zqD, zqE, zqF]
            refine wpAnyH_take (i := 18) (v := .pointer (some ⟨q, o + j * 3 + 2, none⟩)) rfl (by kernel_rfl) (by kernel_rfl) (by kernel_rfl) (fun _ _ _ h => h) (Or.inl ⟨by rfl, ?_⟩) hS7 ?_
            · intro Y hY
              skip
              go_simp
            simp only [Act.put, zqA, zqB, zqC, zqD, zqE, zqF]
            refine wpAnyH_take (i := 19) (v := .string ⟨dt.toArray⟩) rfl (by kernel_rfl) (by kernel_rfl) (by kernel_rfl) (fun _ _ _ h => h) (Or.inl ⟨by rfl, ?_⟩) hS7 ?_
            · intro Y hY
              obtain ⟨d0, d1, d2⟩ := HAW.out Y hY
              go_simp
            simp only [Act.put, zqA, zqB, zqC, zqD, zqE, zqF]
            refine wpAnyH_take (i := 20) (v := .pointer (some ⟨h + 1, 3, none⟩)) rfl (by kernel_rfl) (by kernel_rfl) (by kernel_rfl) (fun _ _ _ h => h) (Or.inl ⟨by rfl, ?_⟩) hS7 ?_
            · intro Y hY
              skip
              go_simp
            simp only [Act.put, zqA, zqB, zqC, zqD, zqE, zqF]
            refine wpAnyH_take (i := 21) (v := .slice (some ⟨q2, o2, none⟩) ms.length cb) rfl (by kernel_rfl) (by kernel_rfl) (by kernel_rfl) (fun _ _ _ h => h) (Or.inl ⟨by rfl, ?_⟩) hS7 ?_
            · intro Y hY
              obtain ⟨c0, c1, c2, c3, c4, c5, c6⟩ := HYW.out Y hY
              go_simp
            simp only [Act.put, zqA, zqB, zqC, zqD, zqE, zqF]
            refine wpAnyH_take (i := 22) (v := .int .i64 (j : Nat)) rfl (by kernel_rfl) (by kernel_rfl) (by kernel_rfl) (fun _ _ _ h => h) (Or.inl ⟨by rfl, ?_⟩) hS7 ?_
            · intro Y hY
              skip
              go_simp
            simp only [Act.put, zqA, zqB, zqC, zqD, zqE, zqF]
            refine wpAnyH_take (i := 23) (v := .pointer (some ⟨q2, o2 + j * 3, none⟩)) rfl (by kernel_rfl) (by kernel_rfl) (by kernel_rfl) (fun _ _ _ h => h) (Or.inl ⟨by rfl, ?_⟩) hS7 ?_
            · intro Y hY
              skip
              go_simp
            simp only [Act.put, zqA, zqB, zqC, zqD, zqE, zqF]
            refine wpAnyH_take (i := 24) (v := .pointer (some ⟨q2, o2 + j * 3 + 2, none⟩)) rfl (by kernel_rfl) (by kernel_rfl) (by kernel_rfl) (fun _ _ _ h => h) (Or.inl ⟨by rfl, ?_⟩) hS7 ?_
            · intro Y hY
              skip
              go_simp
            simp only [Act.put, zqA, zqB, zqC, zqD, zqE, zqF]
            refine wpAnyH_take (i := 25) (v := .string ⟨dt2.toArray⟩) rfl (by kernel_rfl) (by kernel_rfl) (by kernel_rfl) (fun _ _ _ h => h) (Or.inl ⟨by rfl, ?_⟩) hS7 ?_
            · intro Y hY
              obtain ⟨d0, d1, d2⟩ := HBW.out Y hY
              go_simp
            simp only [Act.put, zqA, zqB, zqC, zqD, zqE, zqF]
            refine wpAnyH_take (i := 26) (v := .bool false) rfl (by kernel_rfl) (by kernel_rfl) (by kernel_rfl) (fun _ _ _ h => h) (Or.inl ⟨by rfl, ?_⟩) hS7 ?_
            · intro Y hY
              skip
              go_simp
              first | done | exact HEA.out | exact HED.out
            simp only [Act.put, zqA, zqB, zqC, zqD, zqE, zqF]
            refine wpAnyH_take (i := 27) (v := .bool false) rfl (by kernel_rfl) (by kernel_rfl) (by kernel_rfl) (fun _ _ _ h => h) (Or.inl ⟨by rfl, ?_⟩) hS7 ?_
            · intro Y hY
              skip
              go_simp
            simp only [Act.put, zqA, zqB, zqC, zqD, zqE, zqF]
            refine wpAnyH_take (i := 28) (v := .bool false) rfl (by kernel_rfl) (by kernel_rfl) (by kernel_rfl) (fun _ _ _ h => h) (Or.inl ⟨by rfl, ?_⟩) hS7 ?_
            · intro Y hY
              skip
              go_simp
            simp only [Act.put, zqA, zqB, zqC, zqD, zqE, zqF]
            refine wpAnyH_take (i := 29) (v := .bool false) rfl (by kernel_rfl) (by kernel_rfl) (by kernel_rfl) (fun _ _ _ h => h) (Or.inl ⟨by rfl, ?_⟩) hS7 ?_
            · intro Y hY
              skip
              go_simp
            simp only [Act.put, zqA, zqB, zqC, zqD, zqE, zqF]
            refine wpAnyH_take (i := 30) (v := .bool true) rfl (by kernel_rfl) (by kernel_rfl) (by kernel_rfl) (fun _ _ _ h => h) (Or.inl ⟨by rfl, ?_⟩) hS7 ?_
            · intro Y hY
              skip
              go_simp
            simp only [Act.put, zqA, zqB, zqC, zqD, zqE, zqF]
            refine wpAnyH_take (i := 31) (v := .bool true) rfl (by kernel_rfl) (by kernel_rfl) (by kernel_rfl) (fun _ _ _ h => h) (Or.inl ⟨by rfl, ?_⟩) hS7 ?_
            · intro Y hY
              skip
              go_simp
            simp only [Act.put, zqA, zqB, zqC, zqD, zqE, zqF]
            refine wpAnyH_done (by kernel_rfl) ?_ _
            go_wp2_with fail
            go_ret
            exact ⟨rfl, HB0.out.trans ((HWW.out.trans (hS7.mono HWW.out.size)).mono HB0.out.size)⟩
        · have HEA := Lib.hid ha
          have HED := Lib.hid hd
          have hn : R = false := HNO.out (fun e => by injection e with e1 e2 e3; exact hd e3)
          subst hn
          clear ha hd
          refine wp_region_held (S := Below wr.heap.size wr) mixed ?_
          have hS7 : Below wr.heap.size wr w6.drew := Below.drew hS6
          rw [show Array.replicate (Array.size _) false = #[false, false, false, false, false, false, false, false, false, false, false, false, false, false, false, false, false, false, false, false, false, false, false, false, false, false, false, false, false, false, false, false] from rfl, show Array.size (α := Oper) _ = 32 from rfl]
          refine wpAnyH_take (i := 0) (v := .pointer (some ⟨h, 3, none⟩)) rfl (by kernel_rfl) (by kernel_rfl) (by kernel_rfl) (fun _ _ _ h => h) (Or.inl ⟨by rfl, ?_⟩) hS7 ?_
          · intro Y hY
            skip
            go_simp
          simp only [Act.put, zqA, zqC, zqD, zqE, zqF]
          refine wpAnyH_take (i := 1) (v := .slice (some ⟨q, o, none⟩) ls.length ca) rfl (by kernel_rfl) (by kernel_rfl) (by kernel_rfl) (fun _ _ _ h => h) (Or.inl ⟨by rfl, ?_⟩) hS7 ?_
          · intro Y hY
            obtain ⟨c0, c1, c2, c3, c4, c5, c6⟩ := HXW.out Y hY
            go_simp
          simp only [Act.put, zqA, zqB, zqC, zqD, zqE, zqF]
          refine wpAnyH_take (i := 2) (v := .int .i64 (j : Nat)) rfl (by kernel_rfl) (by kernel_rfl) (by kernel_rfl) (fun _ _ _ h => h) (Or.inl ⟨by rfl, ?_⟩) hS7 ?_
          · intro Y hY
            skip
            go_simp
          simp only [Act.put, zqA, zqB, zqC, zqD, zqE, zqF]
          refine wpAnyH_take (i := 3) (v := .pointer (some ⟨q, o + j * 3, none⟩)) rfl (by kernel_rfl) (by kernel_rfl) (by kernel_rfl) (fun _ _ _ h => h) (Or.inl ⟨by rfl, ?_⟩) hS7 ?_
          · intro Y hY
            skip
            go_simp
          simp only [Act.put, zqA, zqB, zqC, zqD, zqE, zqF]
          refine wpAnyH_take (i := 4) (v := .pointer (some ⟨q, o + j * 3, none⟩)) rfl (by kernel_rfl) (by kernel_rfl) (by kernel_rfl) (fun _ _ _ h => h) (Or.inl ⟨by rfl, ?_⟩) hS7 ?_
          · intro Y hY
            skip
            go_simp
          simp only [Act.put, zqA, zqB, zqC, zqD, zqE, zqF]
          refine wpAnyH_take (i := 5) (v := .string ⟨ad.toArray⟩) rfl (by kernel_rfl) (by kernel_rfl) (by kernel_rfl) (fun _ _ _ h => h) (Or.inl ⟨by rfl, ?_⟩) hS7 ?_
          · intro Y hY
            obtain ⟨d0, d1, d2⟩ := HAW.out Y hY
            go_simp
          simp only [Act.put, zqA, zqB, zqC, zqD, zqE, zqF]
          refine wpAnyH_take (i := 6) (v := .pointer (some ⟨h + 1, 3, none⟩)) rfl (by kernel_rfl) (by kernel_rfl) (by kernel_rfl) (fun _ _ _ h => h) (Or.inl ⟨by rfl, ?_⟩) hS7 ?_
          · intro Y hY
            skip
            go_simp
          simp only [Act.put, zqA, zqB, zqC, zqD, zqE, zqF]
          refine wpAnyH_take (i := 7) (v := .slice (some ⟨q2, o2, none⟩) ms.length cb) rfl (by kernel_rfl) (by kernel_rfl) (by kernel_rfl) (fun _ _ _ h => h) (Or.inl ⟨by rfl, ?_⟩) hS7 ?_
          · intro Y hY
            obtain ⟨c0, c1, c2, c3, c4, c5, c6⟩ := HYW.out Y hY
            go_simp
          simp only [Act.put, zqA, zqB, zqC, zqD, zqE, zqF]
          refine wpAnyH_take (i := 8) (v := .int .i64 (j : Nat)) rfl (by kernel_rfl) (by kernel_rfl) (by kernel_rfl) (fun _ _ _ h => h) (Or.inl ⟨by rfl, ?_⟩) hS7 ?_
          · intro Y hY
            skip
            go_simp
          simp only [Act.put, zqA, zqB, zqC, zqD, zqE, zqF]
          refine wpAnyH_take (i := 9) (v := .pointer (some ⟨q2, o2 + j * 3, none⟩)) rfl (by kernel_rfl) (by kernel_rfl) (by kernel_rfl) (fun _ _ _ h => h) (Or.inl ⟨by rfl, ?_⟩) hS7 ?_
          · intro Y hY
            skip
            go_simp
          simp only [Act.put, zqA, zqB, zqC, zqD, zqE, zqF]
          refine wpAnyH_take (i := 10) (v := .pointer (some ⟨q2, o2 + j * 3, none⟩)) rfl (by kernel_rfl) (by kernel_rfl) (by kernel_rfl) (fun _ _ _ h => h) (Or.inl ⟨by rfl, ?_⟩) hS7 ?_
          · intro Y hY
            skip
            go_simp
          simp only [Act.put, zqA, zqB, zqC, zqD, zqE, zqF]
          refine wpAnyH_take (i := 11) (v := .string ⟨ad2.toArray⟩) rfl (by kernel_rfl) (by kernel_rfl) (by kernel_rfl) (fun _ _ _ h => h) (Or.inl ⟨by rfl, ?_⟩) hS7 ?_
          · intro Y hY
            obtain ⟨d0, d1, d2⟩ := HBW.out Y hY
            go_simp
          simp only [Act.put, zqA, zqB, zqC, zqD, zqE, zqF]
          refine wpAnyH_take (i := 12) (v := .bool false) rfl (by kernel_rfl) (by kernel_rfl) (by kernel_rfl) (fun _ _ _ h => h) (Or.inl ⟨by rfl, ?_⟩) hS7 ?_
          · intro Y hY
            skip
            go_simp
            first | done | exact HEA.out | exact HED.out
          simp only [Act.put, zqA, zqB, zqC, zqD, zqE, zqF]
          refine wpAnyH_take (i := 13) (v := .bool false) rfl (by kernel_rfl) (by kernel_rfl) (by kernel_rfl) (fun _ _ _ h => h) (Or.inl ⟨by rfl, ?_⟩) hS7 ?_
          · intro Y hY
            skip
            go_simp
          simp only [Act.put, zqA, zqB, zqC, zqD, zqE, zqF]
          refine wpAnyH_take (i := 14) (v := .pointer (some ⟨h, 3, none⟩)) rfl (by kernel_rfl) (by kernel_rfl) (by kernel_rfl) (fun _ _ _ h => h) (Or.inl ⟨by rfl, ?_⟩) hS7 ?_
          · intro Y hY
            skip
            go_simp
          simp only [Act.put, zqA, zqB, zqC, zqD, zqE, zqF]
          refine wpAnyH_take (i := 15) (v := .slice (some ⟨q, o, none⟩) ls.length ca) rfl (by kernel_rfl) (by kernel_rfl) (by kernel_rfl) (fun _ _ _ h => h) (Or.inl ⟨by rfl, ?_⟩) hS7 ?_
          · intro Y hY
            obtain ⟨c0, c1, c2, c3, c4, c5, c6⟩ := HXW.out Y hY
            go_simp
          simp only [Act.put, zqA, zqB, zqC, zqD, zqE, zqF]
          refine wpAnyH_take (i := 16) (v := .int .i64 (j : Nat)) rfl (by kernel_rfl) (by kernel_rfl) (by kernel_rfl) (fun _ _ _ h => h) (Or.inl ⟨by rfl, ?_⟩) hS7 ?_
          · intro Y hY
            skip
            go_simp
          simp only [Act.put, zqA, zqB, zqC, zqD, zqE, zqF]
          refine wpAnyH_take (i := 17) (v := .pointer (some ⟨q, o + j * 3, none⟩)) rfl (by kernel_rfl) (by kernel_rfl) (by kernel_rfl) (fun _ _ _ h => h) (Or.inl ⟨by rfl, ?_⟩) hS7 ?_
          · intro Y hY
            skip
            go_simp
          simp only [Act.put, zqA, zqB, zqC, zqD, zqE, zqF]
          refine wpAnyH_take (i := 18) (v := .pointer (some ⟨q, o + j * 3 + 2, none⟩)) rfl (by kernel_rfl) (by kernel_rfl) (by kernel_rfl) (fun _ _ _ h => h) (Or.inl ⟨by rfl, ?_⟩) hS7 ?_
          · intro Y hY
            skip
            go_simp
          simp only [Act.put, zqA, zqB, zqC, zqD, zqE, zqF]
          refine wpAnyH_take (i := 19) (v := .string ⟨dt.toArray⟩) rfl (by kernel_rfl) (by kernel_rfl) (by kernel_rfl) (fun _ _ _ h => h) (Or.inl ⟨by rfl, ?_⟩) hS7 ?_
          · intro Y hY
            obtain ⟨d0, d1, d2⟩ := HAW.out Y hY
            go_simp
          simp only [Act.put, zqA, zqB, zqC, zqD, zqE, zqF]
          refine wpAnyH_take (i := 20) (v := .pointer (some ⟨h + 1, 3, none⟩)) rfl (by kernel_rfl) (by kernel_rfl) (by kernel_rfl) (fun _ _ _ h => h) (Or.inl ⟨by rfl, ?_⟩) hS7 ?_
          · intro Y hY
            skip
            go_simp
          simp only [Act.put, zqA, zqB, zqC, zqD, zqE, zqF]
          refine wpAnyH_take (i := 21) (v := .slice (some ⟨q2, o2, none⟩) ms.length cb) rfl (by kernel_rfl) (by kernel_rfl) (by kernel_rfl) (fun _ _ _ h => h) (Or.inl ⟨by rfl, ?_⟩) hS7 ?_
          · intro Y hY
            obtain ⟨c0, c1, c2, c3, c4, c5, c6⟩ := HYW.out Y hY
            go_simp
          simp only [Act.put, zqA, zqB, zqC, zqD, zqE, zqF]
          refine wpAnyH_take (i := 22) (v := .int .i64 (j : Nat)) rfl (by kernel_rfl) (by kernel_rfl) (by kernel_rfl) (fun _ _ _ h => h) (Or.inl ⟨by rfl, ?_⟩) hS7 ?_
          · intro Y hY
            skip
            go_simp
          simp only [Act.put, zqA, zqB, zqC, zqD, zqE, zqF]
          refine wpAnyH_take (i := 23) (v := .pointer (some ⟨q2, o2 + j * 3, none⟩)) rfl (by kernel_rfl) (by kernel_rfl) (by kernel_rfl) (fun _ _ _ h => h) (Or.inl ⟨by rfl, ?_⟩) hS7 ?_
          · intro Y hY
            skip
            go_simp
          simp only [Act.put, zqA, zqB, zqC, zqD, zqE, zqF]
          refine wpAnyH_take (i := 24) (v := .pointer (some ⟨q2, o2 + j * 3 + 2, none⟩)) rfl (by kernel_rfl) (by kernel_rfl) (by kernel_rfl) (fun _ _ _ h => h) (Or.inl ⟨by rfl, ?_⟩) hS7 ?_
          · intro Y hY
            skip
            go_simp
          simp only [Act.put, zqA, zqB, zqC, zqD, zqE, zqF]
          refine wpAnyH_take (i := 25) (v := .string ⟨dt2.toArray⟩) rfl (by kernel_rfl) (by kernel_rfl) (by kernel_rfl) (fun _ _ _ h => h) (Or.inl ⟨by rfl, ?_⟩) hS7 ?_
          · intro Y hY
            obtain ⟨d0, d1, d2⟩ := HBW.out Y hY
            go_simp
          simp only [Act.put, zqA, zqB, zqC, zqD, zqE, zqF]
          refine wpAnyH_take (i := 26) (v := .bool true) rfl (by kernel_rfl) (by kernel_rfl) (by kernel_rfl) (fun _ _ _ h => h) (Or.inl ⟨by rfl, ?_⟩) hS7 ?_
          · intro Y hY
            skip
            go_simp
            first | done | exact HEA.out | exact HED.out
          simp only [Act.put, zqA, zqB, zqC, zqD, zqE, zqF]
          refine wpAnyH_take (i := 27) (v := .bool true) rfl (by kernel_rfl) (by kernel_rfl) (by kernel_rfl) (fun _ _ _ h => h) (Or.inl ⟨by rfl, ?_⟩) hS7 ?_
          · intro Y hY
            skip
            go_simp
          simp only [Act.put, zqA, zqB, zqC, zqD, zqE, zqF]
          refine wpAnyH_take (i := 28) (v := .bool true) rfl (by kernel_rfl) (by kernel_rfl) (by kernel_rfl) (fun _ _ _ h => h) (Or.inl ⟨by rfl, ?_⟩) hS7 ?_
          · intro Y hY
            skip
            go_simp
          simp only [Act.put, zqA, zqB, zqC, zqD, zqE, zqF]
          refine wpAnyH_take (i := 29) (v := undef) rfl (by kernel_rfl) (by kernel_rfl) (by kernel_rfl) (fun _ _ _ h => h) (Or.inr ⟨by rfl, rfl⟩) hS7 ?_
          simp only [Act.put, zqA, zqB, zqC, zqD, zqE, zqF]
          refine wpAnyH_take (i := 30) (v := undef) rfl (by kernel_rfl) (by kernel_rfl) (by kernel_rfl) (fun _ _ _ h => h) (Or.inr ⟨by rfl, rfl⟩) hS7 ?_
          simp only [Act.put, zqA, zqB, zqC, zqD, zqE, zqF]
          refine wpAnyH_take (i := 31) (v := .bool true) rfl (by kernel_rfl) (by kernel_rfl) (by kernel_rfl) (fun _ _ _ h => h) (Or.inl ⟨by rfl, ?_⟩) hS7 ?_
          · intro Y hY
            skip
            go_simp
          simp only [Act.put, zqA, zqB, zqC, zqD, zqE, zqF]
          refine wpAnyH_done (by kernel_rfl) ?_ _
          go_wp2_with fail
          go_ret
          exact ⟨rfl, HB0.out.trans ((HWW.out.trans (hS7.mono HWW.out.size)).mono HB0.out.size)⟩
      · have HEA := Lib.hid ha
        have HED := Lib.hid ha
        have hn : R = false := HNO.out (fun e => by injection e with e1 e2 e3; exact ha e1)
        subst hn
        clear ha
        refine wp_region_held (S := Below wr.heap.size wr) mixed ?_
        have hS7 : Below wr.heap.size wr w6.drew := Below.drew hS6
        rw [show Array.replicate (Array.size _) false = #[false, false, false, false, false, false, false, false, false, false, false, false, false, false, false, false, false, false, false, false, false, false, false, false, false, false, false, false, false, false, false, false] from rfl, show Array.size (α := Oper) _ = 32 from rfl]
        refine wpAnyH_take (i := 0) (v := .pointer (some ⟨h, 3, none⟩)) rfl (by kernel_rfl) (by kernel_rfl) (by kernel_rfl) (fun _ _ _ h => h) (Or.inl ⟨by rfl, ?_⟩) hS7 ?_
        · intro Y hY
          skip
          go_simp
        simp only [Act.put, zqA, zqC, zqD, zqE, zqF]
        refine wpAnyH_take (i := 1) (v := .slice (some ⟨q, o, none⟩) ls.length ca) rfl (by kernel_rfl) (by kernel_rfl) (by kernel_rfl) (fun _ _ _ h => h) (Or.inl ⟨by rfl, ?_⟩) hS7 ?_
        · intro Y hY
          obtain ⟨c0, c1, c2, c3, c4, c5, c6⟩ := HXW.out Y hY
          go_simp
        simp only [Act.put, zqA, zqB, zqC, zqD, zqE, zqF]
        refine wpAnyH_take (i := 2) (v := .int .i64 (j : Nat)) rfl (by kernel_rfl) (by kernel_rfl) (by kernel_rfl) (fun _ _ _ h => h) (Or.inl ⟨by rfl, ?_⟩) hS7 ?_
        · intro Y hY
          skip
          go_simp
        simp only [Act.put, zqA, zqB, zqC, zqD, zqE, zqF]
        refine wpAnyH_take (i := 3) (v := .pointer (some ⟨q, o + j * 3, none⟩)) rfl (by kernel_rfl) (by kernel_rfl) (by kernel_rfl) (fun _ _ _ h => h) (Or.inl ⟨by rfl, ?_⟩) hS7 ?_
        · intro Y hY
          skip
          go_simp
        simp only [Act.put, zqA, zqB, zqC, zqD, zqE, zqF]
        refine wpAnyH_take (i := 4) (v := .pointer (some ⟨q, o + j * 3, none⟩)) rfl (by kernel_rfl) (by kernel_rfl) (by kernel_rfl) (fun _ _ _ h => h) (Or.inl ⟨by rfl, ?_⟩) hS7 ?_
        · intro Y hY
          skip
          go_simp
        simp only [Act.put, zqA, zqB, zqC, zqD, zqE, zqF]
        refine wpAnyH_take (i := 5) (v := .string ⟨ad.toArray⟩) rfl (by kernel_rfl) (by kernel_rfl) (by kernel_rfl) (fun _ _ _ h => h) (Or.inl ⟨by rfl, ?_⟩) hS7 ?_
        · intro Y hY
          obtain ⟨d0, d1, d2⟩ := HAW.out Y hY
          go_simp
        simp only [Act.put, zqA, zqB, zqC, zqD, zqE, zqF]
        refine wpAnyH_take (i := 6) (v := .pointer (some ⟨h + 1, 3, none⟩)) rfl (by kernel_rfl) (by kernel_rfl) (by kernel_rfl) (fun _ _ _ h => h) (Or.inl ⟨by rfl, ?_⟩) hS7 ?_
        · intro Y hY
          skip
          go_simp
        simp only [Act.put, zqA, zqB, zqC, zqD, zqE, zqF]
        refine wpAnyH_take (i := 7) (v := .slice (some ⟨q2, o2, none⟩) ms.length cb) rfl (by kernel_rfl) (by kernel_rfl) (by kernel_rfl) (fun _ _ _ h => h) (Or.inl ⟨by rfl, ?_⟩) hS7 ?_
        · intro Y hY
          obtain ⟨c0, c1, c2, c3, c4, c5, c6⟩ := HYW.out Y hY
          go_simp
        simp only [Act.put, zqA, zqB, zqC, zqD, zqE, zqF]
        refine wpAnyH_take (i := 8) (v := .int .i64 (j : Nat)) rfl (by kernel_rfl) (by kernel_rfl) (by kernel_rfl) (fun _ _ _ h => h) (Or.inl ⟨by rfl, ?_⟩) hS7 ?_
        · intro Y hY
          skip
          go_simp
        simp only [Act.put, zqA, zqB, zqC, zqD, zqE, zqF]
        refine wpAnyH_take (i := 9) (v := .pointer (some ⟨q2, o2 + j * 3, none⟩)) rfl (by kernel_rfl) (by kernel_rfl) (by kernel_rfl) (fun _ _ _ h => h) (Or.inl ⟨by rfl, ?_⟩) hS7 ?_
        · intro Y hY
          skip
          go_simp
        simp only [Act.put, zqA, zqB, zqC, zqD, zqE, zqF]
        refine wpAnyH_take (i := 10) (v := .pointer (some ⟨q2, o2 + j * 3, none⟩)) rfl (by kernel_rfl) (by kernel_rfl) (by kernel_rfl) (fun _ _ _ h => h) (Or.inl ⟨by rfl, ?_⟩) hS7 ?_
        · intro Y hY
          skip
          go_simp
        simp only [Act.put, zqA, zqB, zqC, zqD, zqE, zqF]
        refine wpAnyH_take (i := 11) (v := .string ⟨ad2.toArray⟩) rfl (by kernel_rfl) (by kernel_rfl) (by kernel_rfl) (fun _ _ _ h => h) (Or.inl ⟨by rfl, ?_⟩) hS7 ?_
        · intro Y hY
          obtain ⟨d0, d1, d2⟩ := HBW.out Y hY
          go_simp
        simp only [Act.put, zqA, zqB, zqC, zqD, zqE, zqF]
        refine wpAnyH_take (i := 12) (v := .bool true) rfl (by kernel_rfl) (by kernel_rfl) (by kernel_rfl) (fun _ _ _ h => h) (Or.inl ⟨by rfl, ?_⟩) hS7 ?_
        · intro Y hY
          skip
          go_simp
          first | done | exact HEA.out | exact HED.out
        simp only [Act.put, zqA, zqB, zqC, zqD, zqE, zqF]
        refine wpAnyH_take (i := 13) (v := .bool true) rfl (by kernel_rfl) (by kernel_rfl) (by kernel_rfl) (fun _ _ _ h => h) (Or.inl ⟨by rfl, ?_⟩) hS7 ?_
        · intro Y hY
          skip
          go_simp
        simp only [Act.put, zqA, zqB, zqC, zqD, zqE, zqF]
        refine wpAnyH_take (i := 14) (v := undef) rfl (by kernel_rfl) (by kernel_rfl) (by kernel_rfl) (fun _ _ _ h => h) (Or.inr ⟨by rfl, rfl⟩) hS7 ?_
        simp only [Act.put, zqA, zqB, zqC, zqD, zqE, zqF]
        refine wpAnyH_take (i := 15) (v := undef) rfl (by kernel_rfl) (by kernel_rfl) (by kernel_rfl) (fun _ _ _ h => h) (Or.inr ⟨by rfl, rfl⟩) hS7 ?_
        simp only [Act.put, zqA, zqB, zqC, zqD, zqE, zqF]
        refine wpAnyH_take (i := 16) (v := undef) rfl (by kernel_rfl) (by kernel_rfl) (by kernel_rfl) (fun _ _ _ h => h) (Or.inr ⟨by rfl, rfl⟩) hS7 ?_
        simp only [Act.put, zqA, zqB, zqC, zqD, zqE, zqF]
        refine wpAnyH_take (i := 17) (v := undef) rfl (by kernel_rfl) (by kernel_rfl) (by kernel_rfl) (fun _ _ _ h => h) (Or.inr ⟨by rfl, rfl⟩) hS7 ?_
        simp only [Act.put, zqA, zqB, zqC, zqD, zqE, zqF]
        refine wpAnyH_take (i := 18) (v := undef) rfl (by kernel_rfl) (by kernel_rfl) (by kernel_rfl) (fun _ _ _ h => h) (Or.inr ⟨by rfl, rfl⟩) hS7 ?_
        simp only [Act.put, zqA, zqB, zqC, zqD, zqE, zqF]
        refine wpAnyH_take (i := 19) (v := undef) rfl (by kernel_rfl) (by kernel_rfl) (by kernel_rfl) (fun _ _ _ h => h) (Or.inr ⟨by rfl, rfl⟩) hS7 ?_
        simp only [Act.put, zqA, zqB, zqC, zqD, zqE, zqF]
        refine wpAnyH_take (i := 20) (v := undef) rfl (by kernel_rfl) (by kernel_rfl) (by kernel_rfl) (fun _ _ _ h => h) (Or.inr ⟨by rfl, rfl⟩) hS7 ?_
        simp only [Act.put, zqA, zqB, zqC, zqD, zqE, zqF]
        refine wpAnyH_take (i := 21) (v := undef) rfl (by kernel_rfl) (by kernel_rfl) (by kernel_rfl) (fun _ _ _ h => h) (Or.inr ⟨by rfl, rfl⟩) hS7 ?_
        simp only [Act.put, zqA, zqB, zqC, zqD, zqE, zqF]
        refine wpAnyH_take (i := 22) (v := undef) rfl (by kernel_rfl) (by kernel_rfl) (by kernel_rfl) (fun _ _ _ h => h) (Or.inr ⟨by rfl, rfl⟩) hS7 ?_
        simp only [Act.put, zqA, zqB, zqC, zqD, zqE, zqF]
        refine wpAnyH_take (i := 23) (v := undef) rfl (by kernel_rfl) (by kernel_rfl) (by kernel_rfl) (fun _ _ _ h => h) (Or.inr ⟨by rfl, rfl⟩) hS7 ?_
        simp only [Act.put, zqA, zqB, zqC, zqD, zqE, zqF]
        refine wpAnyH_take (i := 24) (v := undef) rfl (by kernel_rfl) (by kernel_rfl) (by kernel_rfl) (fun _ _ _ h => h) (Or.inr ⟨by rfl, rfl⟩) hS7 ?_
        simp only [Act.put, zqA, zqB, zqC, zqD, zqE, zqF]
        refine wpAnyH_take (i := 25) (v := undef) rfl (by kernel_rfl) (by kernel_rfl) (by kernel_rfl) (fun _ _ _ h => h) (Or.inr ⟨by rfl, rfl⟩) hS7 ?_
        simp only [Act.put, zqA, zqB, zqC, zqD, zqE, zqF]
        refine wpAnyH_take (i := 26) (v := undef) rfl (by kernel_rfl) (by kernel_rfl) (by kernel_rfl) (fun _ _ _ h => h) (Or.inr ⟨by rfl, rfl⟩) hS7 ?_
        simp only [Act.put, zqA, zqB, zqC, zqD, zqE, zqF]
        refine wpAnyH_take (i := 27) (v := .bool true) rfl (by kernel_rfl) (by kernel_rfl) (by kernel_rfl) (fun _ _ _ h => h) (Or.inl ⟨by rfl, ?_⟩) hS7 ?_
        · intro Y hY
          skip
          go_simp
        simp only [Act.put, zqA, zqB, zqC, zqD, zqE, zqF]
        refine wpAnyH_take (i := 28) (v := .bool true) rfl (by kernel_rfl) (by kernel_rfl) (by kernel_rfl) (fun _ _ _ h => h) (Or.inl ⟨by rfl, ?_⟩) hS7 ?_
        · intro Y hY
          skip
          go_simp
        simp only [Act.put, zqA, zqB, zqC, zqD, zqE, zqF]
        refine wpAnyH_take (i := 29) (v := undef) rfl (by kernel_rfl) (by kernel_rfl) (by kernel_rfl) (fun _ _ _ h => h) (Or.inr ⟨by rfl, rfl⟩) hS7 ?_
        simp only [Act.put, zqA, zqB, zqC, zqD, zqE, zqF]
        refine wpAnyH_take (i := 30) (v := undef) rfl (by kernel_rfl) (by kernel_rfl) (by kernel_rfl) (fun _ _ _ h => h) (Or.inr ⟨by rfl, rfl⟩) hS7 ?_
        simp only [Act.put, zqA, zqB, zqC, zqD, zqE, zqF]
        refine wpAnyH_take (i := 31) (v := .bool true) rfl (by kernel_rfl) (by kernel_rfl) (by kernel_rfl) (fun _ _ _ h => h) (Or.inl ⟨by rfl, ?_⟩) hS7 ?_
        · intro Y hY
          skip
          go_simp
        simp only [Act.put, zqA, zqB, zqC, zqD, zqE, zqF]
        refine wpAnyH_done (by kernel_rfl) ?_ _
        go_wp2_with fail
        go_ret
        exact ⟨rfl, HB0.out.trans ((HWW.out.trans (hS7.mono HWW.out.size)).mono HB0.out.size)⟩
    · obtain rfl : j = ls.length := by omega
      have hls : ls = ms := by
        have := hq
        rw [List.take_length, HLEN.out, List.take_length] at this
        exact this
      have hn : R = true := by
        rw [← HR.out]
        exact M.sameR_iff.2 (by rw [hls])
      subst hn
      clear hls hq
      go_wp2_with fail
      go_ret
      exact ⟨rfl, HB0.out.trans (hW.mono HB0.out.size)⟩
end Go.Proofs.YtebjhbeaknokkaaGreatDoor
namespace Go.Proofs.YtebjhbeaknokkaaGreatDoor
open Go Go.RowKit Go.Lib
attribute [local go_sem] Oper.semAt_some

theorem few_dec {s : List UInt8} (hs : s.length ≤ 2500) : FewR (M.decR s).1.logs := by
  by_cases hn : (M.decR s).2 = 0
  · obtain ⟨q1, q2, q3, q4⟩ := M.dec_then_enc (by omega) hn
    obtain ⟨h1, h2⟩ := M.chkR_logs q2
    exact ⟨by omega, fun g hg => by have := (h2 g hg).2.2.1; omega⟩
  · rw [decR_no hn]
    exact ⟨Nat.zero_le _, fun _ h => by cases h⟩
set_option maxRecDepth 100000 in
set_option maxHeartbeats 8000000 in
theorem decodes11_law (s : List UInt8) (w : World) (hh : Hdl w) : Calls Tryz.prog 4 #[.string ⟨s.toArray⟩] w fun e w' => e = .returned (.bool true) ∧ Below w.heap.size w w' := by
  have HW := Lib.hid (works11 w hh)
  have HH := Lib.hid hh
  clear hh
  by_cases hl : 2500 < s.length
  · have hl' : (2500 : Int) < (s.length : Nat) := by omega
    go_enter Tryz.func4, Tryz.ntmps4
    go_wp2_with fail
    refine HW.out.mono ?_
    rintro e w1 ⟨rfl, hb1⟩
    go_wp2_with fail
    go_ret
    exact ⟨rfl, hb1⟩
  · have hl' : ¬ (2500 : Int) < (s.length : Nat) := by omega
    have HD := Lib.hid (fun W (h : Hdl W) => pdecode_any s W h (M.gd_rdI _ _ (Nat.le_trans (by rw [List.length_drop]; exact Nat.sub_le _ _) (by omega))) (by omega))
    have he : ∀ W, Calls Tryz.prog 16 #[.string ⟨s.toArray⟩] W fun e w' => (∃ v, e = .returned (.tuple #[rcv (M.decR s).1 v, .int .i64 ((M.decR s).2 : Nat)]) ∧ Ls w' w'.heap.size (M.decR s).1.logs v) ∧ Below W.heap.size W w' := fun W => rdec11_any s W (by omega)
    have HE := Lib.hid he
    have HF := Lib.hid (few_dec (s := s) (by omega))
    clear he
    generalize M.decR s = x at *
    obtain ⟨⟨k, st, ga, ls, fu, no, ve⟩, n⟩ := x
    have HQ := Lib.hid (M.sameR_iff.2 (rfl : (⟨k, st, ga, ls, fu, no, ve⟩ : M.Rc) = ⟨k, st, ga, ls, fu, no, ve⟩))
    dsimp only at *
    go_enter Tryz.func4, Tryz.ntmps4
    go_wp2_with fail
    refine HW.out.mono ?_
    rintro e w1 ⟨rfl, hb1⟩
    have HB1 := Lib.hid hb1
    have HH1 := Lib.hid (HH.out.kept hb1)
    clear hb1 HH
    go_wp2_with fail
    refine (HD.out _ HH1.out).mono ?_
    rintro e w2 ⟨⟨v, rfl, hL⟩, hb2⟩
    obtain ⟨a, c, rfl, _, _⟩ := hL.slice
    obtain ⟨g, hg⟩ : ∃ g, w2.heap.size = g := ⟨_, rfl⟩
    obtain ⟨w3, hw3⟩ : ∃ w3, w2.alloc (.cells #[.int .i64 k, .bool st, .int .u64 (ga : Nat), .slice a ls.length c, .bool fu, .int .u64 (no : Nat), .int .u64 (ve : Nat)] 25) = w3 := ⟨_, rfl⟩
    have hb23 : Below w2.heap.size w2 w3 := by rw [← hw3]; exact (Below.refl _ _).alloc (Nat.le_refl _) _
    have hx := B7.new w2 (.int .i64 k) (.bool st) (.int .u64 (ga : Nat)) (.slice a ls.length c) (.bool fu) (.int .u64 (no : Nat)) (.int .u64 (ve : Nat)) 25
    rw [hw3, hg] at hx
    have HW3 := Lib.hid hw3
    have HL3 := Lib.hid (hL.kept hb23)
    have HB3 := Lib.hid ((HB1.out.trans (hb2.mono HB1.out.size)).trans (hb23.mono (Nat.le_trans HB1.out.size hb2.size)))
    have HX3 := Lib.hid hx
    clear hb2 hb23 hw3 hL HD hx
    go_wp2_with (first | rw [HW3.out] | rw [hg])
    refine (HE.out _).mono ?_
    rintro e w4 ⟨⟨v, rfl, hL⟩, hb4⟩
    obtain ⟨b, d, rfl, _, _⟩ := hL.slice
    obtain ⟨g2, hg2⟩ : ∃ g2, w4.heap.size = g2 := ⟨_, rfl⟩
    obtain ⟨w5, hw5⟩ : ∃ w5, w4.alloc (.cells #[.int .i64 k, .bool st, .int .u64 (ga : Nat), .slice b ls.length d, .bool fu, .int .u64 (no : Nat), .int .u64 (ve : Nat)] 25) = w5 := ⟨_, rfl⟩
    have hb45 : Below w4.heap.size w4 w5 := by rw [← hw5]; exact (Below.refl _ _).alloc (Nat.le_refl _) _
    have hx := B7.new w4 (.int .i64 k) (.bool st) (.int .u64 (ga : Nat)) (.slice b ls.length d) (.bool fu) (.int .u64 (no : Nat)) (.int .u64 (ve : Nat)) 25
    rw [hw5, hg2] at hx
    have HW5 := Lib.hid hw5
    have HL5 := Lib.hid (hL.kept hb45)
    have HM5 := Lib.hid ((HL3.out.kept hb4).kept hb45)
    have HB5 := Lib.hid ((HB3.out.trans (hb4.mono HB3.out.size)).trans (hb45.mono (Nat.le_trans HB3.out.size hb4.size)))
    have hx3 := (HX3.out.from_ hb4).from_ hb45
    have HS := Lib.hid (rsameR_any k st ga ls fu no ve k st ga ls fu no ve a c b d w5 HM5.out HL5.out HF.out HF.out)
    rw [HQ.out] at HS
    obtain ⟨c0, c1, c2, c3, c4, c5, c6⟩ := hx
    obtain ⟨d0, d1, d2, d3, d4, d5, d6⟩ := hx3
    clear hb4 hb45 hw5 hL HE HL3 HM5 HL5 HX3
    go_wp2_with (first | rw [HW5.out] | rw [hg2])
    refine HS.out.mono ?_
    rintro e w6 ⟨rfl, hb6⟩
    go_wp2_with fail
    go_ret
    exact ⟨rfl, HB5.out.trans (hb6.mono HB5.out.size)⟩
end Go.Proofs.YtebjhbeaknokkaaGreatDoor
namespace Go.Proofs.YtebjhbeaknokkaaGreatDoor
open Go Go.RowKit Go.ChangeShapes Go.WideShapes Go.ChangeAt

theorem g_et : Tryz.prog.globalNamed "errors.errorType" = some 0 := by kernel_rfl
theorem rt11 : (Tryz.prog.cutTypes.find? (·.1 == "internal/reflectlite.rtype")).map (·.2) = some 238 := by kernel_rfl
theorem oneRow11 : ((List.range Tryz.prog.types.size).filter fun t => Tryz.prog.rowNamed t [101, 114, 114, 111, 114]) = [60] := by kernel_rfl
abbrev L11 : List (String × DataW Unit) := [("unicode/utf8.acceptRanges", Rows.laid_unicode_utf8_acceptRanges), ("errors.errorType", Rows.laid_errors_errorType), ("unicode/utf8.first", Rows.laid_unicode_utf8_first)]
abbrev D11 : List (String × DataW Unit) := [("unicode/utf8.acceptRanges", Rows.laid_unicode_utf8_acceptRanges), ("unicode/utf8.first", Rows.laid_unicode_utf8_first)]
theorem hdl_of_laid {W : World} (h : laidMetH Tryz.prog L11 W) : Hdl W := by
  obtain ⟨name, u, ty, e1, e2, e3, e4, e5⟩ := (laidMetH_iff.1 h).2 ("errors.errorType", Rows.laid_errors_errorType) (List.mem_filter.2 ⟨by simp, rfl⟩)
  have en : name = [101, 114, 114, 111, 114] := (Option.some.inj e1).symm
  subst en
  obtain rfl := Option.some.inj (rt11.symm.trans e2)
  have hm : ty ∈ (List.range Tryz.prog.types.size).filter fun t => Tryz.prog.rowNamed t [101, 114, 114, 111, 114] := List.mem_filter.2 ⟨List.mem_range.2 e3, e4⟩
  rw [oneRow11] at hm
  obtain rfl := List.mem_singleton.1 hm
  have hh : typeHandle Tryz.prog 60 = .pointer (some ⟨4, 60, none⟩) := by kernel_rfl
  rw [hh] at e5
  simpa using World.var?_cell g_et e5 0

noncomputable def h11 (os : Os) : World :=
  let w0 := World.holding Tryz.prog os ⟨#[], #[], []⟩
  { w0 with heap := w0.heap.modify 0 fun
      | .cells _ t frozen => .cells #[.iface 238 (.agg #[.pointer (some ⟨4, 60, none⟩)])] t frozen
      | o => o }
noncomputable def w11 (os : Os) : World := (h11 os).layVars Tryz.prog D11
theorem w11_os (os : Os) : (w11 os).os = os := World.layVars_os _ _ _
theorem d11_eq : (L11.filter fun x => x.2.handleName?.isNone) = D11 := by rfl
theorem w11_data (os : Os) (args : Array Value) : laidMet Tryz.prog D11 ((w11 os).forCall (fun _ _ => 0) ⟨#[], args, []⟩).memory := by
  have hf : (h11 os).layFits Tryz.prog D11 [] = true := by kernel_rfl
  have hi : (h11 os).layIfaces Tryz.prog D11 (w11 os) = true := by kernel_rfl
  have e1 : (D11.filter fun x => (D11.map (·.1)).contains x.1) = D11 := List.filter_eq_self.2 fun x hx => List.contains_iff_mem.2 (List.mem_map.2 ⟨x, hx, rfl⟩)
  have e2 : (D11.filter fun x => !(D11.map (·.1)).contains x.1) = [] := List.filter_eq_nil_iff.2 fun x hx => by rw [List.contains_iff_mem.2 (List.mem_map.2 ⟨x, hx, rfl⟩)]; simp
  have h : laidMet Tryz.prog D11 (w11 os) := laidMet_layVars (w0 := h11 os) (D11.map (·.1)) [] (by rw [e1]; rfl) (by rw [e1]; exact hf) (by rw [e1]; exact hi) (by rw [e2]; exact LaidIn.none)
  exact h.of_heap (by simp [World.memory, World.forCall, Input.heap])
theorem w11_met (os : Os) (args : Array Value) : laidMetH Tryz.prog L11 ((w11 os).forCall (fun _ _ => 0) ⟨#[], args, []⟩).memory :=
  laidMetH_of_parts (by rw [d11_eq]; exact w11_data os args) (by kernel_rfl)
end Go.Proofs.YtebjhbeaknokkaaGreatDoor
namespace Go.Proofs.YtebjhbeaknokkaaGreatDoor
open Go.ChangeShapes Go.WideShapes Go.ChangeAt Go.RowKit
open Go.ChangeMaps (open_string shut_string)

namespace ReceiptDecodes
theorem own : ownKnob Tryz.prog.godebug = none := by kernel_rfl
theorem laidOut : laidOutB Tryz.prog = true := by kernel_rfl

set_option maxRecDepth 100000 in
theorem lifted (os : Os) (started : os.Started) (H : Type) (enc : TypeId × Value → H) :
    ReturnsInHanded {} Tryz.checked os 4 .any (fun w args => (Rows.receiptDecodesSpec.pre enc Tryz.prog Tryz.f4 Rows.receiptDecodesRow.domain false w args ∧ laidMetH Tryz.prog Rows.receiptDecodesRow.laid w) ∧ sizedMet enc Tryz.prog Tryz.f4 (OpenSpec.ofChange Rows.receiptDecodesSpec) false w args)
      (Rows.receiptDecodesSpec.post enc Tryz.prog Tryz.f4 false true false false) := by
  refine returnsInHanded_of_change_and (C := Tryz.checked) (X := fun w _ => laidMetH Tryz.prog Rows.receiptDecodesRow.laid w) (fun _ _ _ hh h => h.of_heap hh) own started (by kernel_rfl) Tryz.func4
    (ChangeSpec.witness_shaped (enc := enc) (C := Tryz.checked) (os := os) (X := fun w _ => laidMetH Tryz.prog Rows.receiptDecodesRow.laid w) false (w11 os) #[.string ⟨#[]⟩] 8 (w11_os os)
      (World.shaped_of_ZipB (by kernel_rfl) (by kernel_rfl)) (by kernel_rfl) (by kernel_rfl) (by kernel_rfl)
      (w11_met os _)) ?_
  intro W base args ds gs before hval0 hW _ _ hLaid _
  have hval : ∀ (j : Nat) t v, Tryz.f4.params[j]? = some t → args[j]? = some v → Value.okWide Tryz.prog W .any base t v := hval0
  have hW' := hW
  obtain ⟨p, q, hA0, hV, rfl, hfz, hnd⟩ := hW
  have hA : DataW.TrodAll enc Tryz.prog W 0 (fun _ => true) true Tryz.f4.params.toList args.toList ds p := hA0
  rw [Tryz.params4] at hA hval
  obtain ⟨v0, vs0, d0, ds0, p0, q0, hargs, rfl, rfl, h0, r0⟩ := trodAll_cons hA
  obtain ⟨rfl, rfl, rfl⟩ := trodAll_nil r0
  obtain rfl : args = #[v0] := by cases args; simp_all
  obtain ⟨rfl, rfl⟩ := trodVars_none hV
  have k0 := h0
  have lt0 : ∀ x ∈ p0, x.block < W.heap.size := by obtain ⟨m, hm⟩ := k0; exact DataW.trod_lt m _ _ _ hm
  obtain ⟨s0, rfl, _, _, w0⟩ := open_string Tryz.underlying9 (hval 0 9 v0 rfl rfl) h0
  clear hA0 hval0
  refine (decodes11_law s0.data.toList W (hdl_of_laid hLaid)).mono fun e W' ⟨he, bel⟩ => ?_
  subst he
  exact ⟨_, rfl, _, _, _, [], _, [], hW', trodAll_mk1 (shut_bool Tryz.underlying4 _), (trodAll_cons_mk (Below.trod laidOut (by kernel_rfl) (of_decide_eq_true (by kernel_rfl)) k0 bel lt0) trodAll_mk0), rfl, bel.frame _, fun h => by cases h⟩

theorem over : Rows.receiptDecodesRow.holds Tryz.pinned (OpenSpec.ofChange Rows.receiptDecodesSpec) :=
  OpenClaim.holds_of_wide 4 Tryz.f4 rfl rfl rfl rfl rfl rfl rfl ⟨rfl, rfl, rfl, rfl, rfl⟩ rfl rfl rfl rfl rfl (by kernel_rfl) Tryz.func4 (by kernel_rfl)
    (of_decide_eq_true (by kernel_rfl)) (by unfold Func.isWrapper; first | (rw [if_pos (by decide +kernel)]; kernel_rfl) | (rw [if_neg (by decide +kernel)]; exact ⟨rfl, rfl⟩))
    (fun os started H enc _ => lifted os started H enc)
end ReceiptDecodes

theorem receiptDecodes_card : Rows.ReceiptDecodesCardSaid :=
  Claim7.holds_tied_plain_at .later [] [.data, .handle, .pinned] true Rows.receiptDecodesCard.stood.harness true
    ReceiptDecodes.over (fun _ h => by cases h) (by kernel_rfl) (fun _ h => by cases h) receiptDecodes_row_tie rfl ⟨rfl, rfl⟩ (by kernel_rfl) rfl
    (fun f fn hf hfn => by
      obtain rfl : f = 4 := Option.some.inj ((show Tryz.prog.funcNamed "rescript/rescriptlaw11.ReceiptDecodes" = some 4 by kernel_rfl).symm.trans hf) |>.symm
      obtain rfl : fn = Tryz.f4 := (Option.some.inj (Tryz.func4.symm.trans hfn)).symm
      exact ⟨by kernel_rfl, fun j t ht => by
        rw [Tryz.params4] at ht
        have hm : t ∈ [9] := by simpa using Array.mem_of_getElem? ht
        have hall : ([9].all fun u => !Tryz.prog.wantsStandIn u) = true := by kernel_rfl
        exact (show Tryz.prog.wantsStandIn t = false by simpa using List.all_eq_true.1 hall t hm)⟩)
    (by kernel_rfl)
#print axioms receiptDecodes_card
end Go.Proofs.YtebjhbeaknokkaaGreatDoor
