/- The reference's Bytes. The reference of layer 11: Bytes, Encode. The reference of layer 11: Encode; ReceiptEncodes, walked. The variables that the cards of layer 11 list: the handle of 'error'; a world that holds them. A receipt that comes in, as it lies in memory. ReceiptEncodes: the statement: for every input the call returns true and each argument reads as it did. The listed library tables are tied to the text (the card). Its condition: none beyond the card's own words. -/
import Derived.Test.YtcbggjdpjjdfmaaGreatDoorH16
import Derived.Test.YtcbggjdpjjdfmaaGreatDoorH08
import Derived.Test.YtcbggjdpjjdfmaaGreatDoorH15
import Derived.Test.YtcbggjdpjjdfmaaGreatDoorH10
import Derived.Test.YtcbggjdpjjdfmaaGreatDoorRows
import Derived.ProofKit
import Derived.OpenShut
import Derived.LaidLaws
import Derived.LaidHandle
import Derived.LaidSub
import Derived.Lay
import Derived.Stop.Joined
import Derived.Lib.SmallJoins
import Derived.Deep.Slices
import Derived.SizedLaws
import Derived.Test.YtcbggjdpjjdfmaaGreatDoorCards
import Derived.Test.YtcbggjdpjjdfmaaGreatDoorTie
import Derived.ShutString
import Derived.ChangeOld
import Derived.Below
import Derived.LaidMore
import Derived.SevenTiedAt
namespace Go.Proofs.YtcbggjdpjjdfmaaGreatDoor
open Go Go.RowKit

set_option maxRecDepth 100000 in
set_option maxHeartbeats 4000000 in
theorem rbytes_n (n : Nat) : ∀ (l : Bool) (d : List UInt8) (xs : List M.It) (v : Value) (w : World), SizeOf.sizeOf xs ≤ n → Lay w w.heap.size xs v → M.cntIs xs ≤ 1000 → (M.bytesI (.mk l d xs)).length ≤ 4611686018427380000 →
    Calls Tryz.prog 49 #[iv l d v] w fun e w' => e = .returned (.string ⟨(M.bytesI (.mk l d xs)).toArray⟩) ∧ Below w.heap.size w w' := by
  induction n with
  | zero => intro l d xs v w h; cases xs <;> simp at h
  | succ n ih =>
    intro l d xs v w hs hL hc hsz0
    have hb0 : Below w.heap.size w (w.alloc (.cells #[.bool l, .string ⟨d.toArray⟩, v] 44)) := by (repeat (first | exact Below.refl _ _ | refine Below.drew ?_ | refine Below.alloc ?_ (by first | omega | (simp; omega) | simp) _ | refine Below.setCell ?_ (by first | omega | (simp; omega) | simp) _))
    cases l with
    | false =>
      by_cases h1 : d.length = 1
      · obtain ⟨c, rfl⟩ : ∃ c, d = [c] := by match d, h1 with | [c], _ => exact ⟨c, rfl⟩
        have hx : (⟨#[c]⟩ : ByteArray)[0]'(Nat.one_pos) = c := rfl
        by_cases hc : c.toNat < 128
        · have e : M.bytesI (.mk false [c] xs) = [c] := by rw [M.bytesI]; simp [hc]
          rw [e]
          go_enter Tryz.func49, Tryz.ntmps49
          go_wp2_with fail
          go_ret
          exact ⟨rfl, hb0⟩
        · have e : M.bytesI (.mk false [c] xs) = M.hdL 1 128 ++ [c] := by rw [M.bytesI]; simp [hc]
          have h9 := (M.hdL_9 (n := 1) (p := 128) (by omega)).2
          rw [e]
          have HH : Hid (∀ w, Calls Tryz.prog 90 #[.int .i64 1, .int .i64 128] w fun e w' => e = .returned (.string ⟨(M.hdL 1 128).toArray⟩) ∧ Below w.heap.size w w') := fun w => rhead 1 128 w (by omega) (by omega)
          generalize M.hdL 1 128 = hd at *
          go_enter Tryz.func49, Tryz.ntmps49
          go_wp2_with fail
          refine (HH.out _).mono ?_
          rintro e w1 ⟨rfl, hb1⟩
          go_wp2_with fail
          go_ret
          exact ⟨congrArg Ending.returned rcat, hb0.trans (hb1.mono (by first | omega | (simp; omega) | simp))⟩
      · have e : M.bytesI (.mk false d xs) = M.hdL d.length 128 ++ d := by rw [M.bytesI]; simp [h1]
        rw [e] at hsz0 ⊢
        rw [List.length_append] at hsz0
        have HH : Hid (∀ w, Calls Tryz.prog 90 #[.int .i64 (d.length : Nat), .int .i64 128] w fun e w' => e = .returned (.string ⟨(M.hdL d.length 128).toArray⟩) ∧ Below w.heap.size w w') := fun w => rhead d.length 128 w (by omega) (by omega)
        generalize M.hdL d.length 128 = hd at *
        have hsz1 : (hd.length : Int) + (d.length : Int) ≤ 4611686018427380000 := by omega
        clear e hsz0
        go_enter Tryz.func49, Tryz.ntmps49
        go_wp2_with fail
        refine (HH.out _).mono ?_
        rintro e w1 ⟨rfl, hb1⟩
        go_wp2_with fail
        go_ret
        exact ⟨congrArg Ending.returned rcat, hb0.trans (hb1.mono (by first | omega | (simp; omega) | simp))⟩
    | true =>
      have hlc := M.length_cnt xs
      have hB := Box.new w true d v 44
      rw [M.bytesI] at hsz0
      rw [List.length_append] at hsz0
      have HH : Hid (∀ w, Calls Tryz.prog 90 #[.int .i64 ((M.bytesIs xs).length : Nat), .int .i64 192] w fun e w' => e = .returned (.string ⟨(M.hdL (M.bytesIs xs).length 192).toArray⟩) ∧ Below w.heap.size w w') := fun w => rhead _ 192 w (by omega) (by omega)
      go_enter Tryz.func49, Tryz.ntmps49
      go_wp2_with fail
      generalize hw0 : w.alloc (.cells #[.bool true, .string ⟨d.toArray⟩, v] 44) = w0 at *
      have hz : w0.heap.size = w.heap.size + 1 := by rw [← hw0]; simp
      clear hw0
      go_loopw [3, 4] (fun s i wr => ∃ k : Nat, k ≤ xs.length ∧ i = .int .i64 k ∧ s = .string ⟨(M.bytesIs (xs.take k)).toArray⟩ ∧ Below w0.heap.size w0 wr) (fun _ i _ => xs.length - (intOf i).toNat)
      case atStart => exact ⟨0, by omega, rfl, rfl, Below.refl _ _⟩
      case round =>
        obtain ⟨k, hk, rfl, rfl, hW⟩ := hrel
        have hbx := hB.from_ hW (by omega)
        have hLr := (hL.from_ hb0).from_ (hW.mono (by omega))
        have hsz := hW.size
        by_cases hlt : k < xs.length
        · obtain ⟨b, o, cp, l', d', ys, u, hve, hbn, hxk, e0, e1, e2, hLu⟩ := hLr.at_ hlt
          subst hve
          have hc2 := hbx.c2
          have hk2 : k < 1000 := by omega
          have hnx := M.bytesIs_next hxk
          have hpt := M.bytesIs_part xs (k + 1)
          rw [hnx, List.length_append] at hpt
          have hcx := M.cntI_part (List.mem_of_getElem? hxk)
          rw [M.cntI] at hcx
          have hsx := size_get hxk
          rw [M.It.mk.sizeOf_spec] at hsx
          have IH := Lib.hid (ih l' d' ys u wr (by omega) (hLu.mono (by omega)) (by omega) (by omega))
          generalize M.bytesIs (xs.take k) = q at *
          generalize M.bytesI (M.It.mk l' d' ys) = q2 at *
          have hsz1 : (q.length : Int) + (q2.length : Int) ≤ 4611686018427380000 := by omega
          have HN := Lib.hid hnx
          clear hnx ih hpt
          go_wp2_with fail
          refine IH.out.mono ?_
          rintro e w1 ⟨rfl, hb1⟩
          have hw1 : Below w0.heap.size w0 w1 := hW.trans (hb1.mono hsz)
          go_wp2_with fail
          go_roundw
          case rel => exact ⟨k + 1, by omega, by simp, by rw [HN.out]; exact rcat, hw1⟩
          case measure => simp [intOf]; omega
        · obtain rfl : k = xs.length := by omega
          rw [List.take_length] at *
          obtain ⟨a, cap, hv, hcap, hmax⟩ := hLr.slice
          subst hv
          have hc2 := hbx.c2
          have hk2 : xs.length ≤ 1000 := by omega
          have E := Lib.hid (show M.bytesI (.mk true d xs) = M.hdL (M.bytesIs xs).length 192 ++ M.bytesIs xs by rw [M.bytesI])
          generalize M.bytesIs xs = q at *
          generalize M.hdL q.length 192 = hd at *
          have hsz1 : (hd.length : Int) + (q.length : Int) ≤ 4611686018427380000 := by omega
          clear ih
          go_wp2_with fail
          refine (HH.out _).mono ?_
          rintro e w1 ⟨rfl, hb1⟩
          go_wp2_with fail
          go_ret
          exact ⟨by rw [E.out]; exact congrArg Ending.returned rcat, hb0.trans ((hW.mono (by omega)).trans (hb1.mono (by omega)))⟩
end Go.Proofs.YtcbggjdpjjdfmaaGreatDoor
namespace Go.Proofs.YtcbggjdpjjdfmaaGreatDoor
open Go Go.RowKit Go.Lib
attribute [local go_sem] Oper.semAt_some

theorem M.cntIs_app : ∀ xs ys : List M.It, M.cntIs (xs ++ ys) = M.cntIs xs + M.cntIs ys
  | [], ys => by simp [M.cntIs]
  | x :: xs, ys => by rw [List.cons_append, M.cntIs, M.cntIs, M.cntIs_app xs ys]; omega
theorem M.logI_cntI (g : M.Lg) : M.cntI (M.logI g) = g.topics.length + 4 := by
  have h1 := M.logI_cnt g
  have h2 : M.cntI (M.logI g) = 1 + M.cntIs [M.textI g.addr, M.textsI g.topics, M.textI g.data] := by unfold M.logI M.listI; rw [M.cntI]
  omega
theorem M.logs_cnt : ∀ ls : List M.Lg, (∀ g ∈ ls, g.topics.length ≤ 4) → M.cntIs (ls.map M.logI) ≤ 8 * ls.length
  | [], _ => by simp [M.cntIs]
  | g :: ls, h => by
    have h1 := M.logs_cnt ls (fun x hx => h x (by simp [hx]))
    have h2 := h g (by simp)
    rw [List.map_cons, M.cntIs, M.logI_cntI, List.length_cons]
    omega
theorem M.parts_cnt {x : M.Rc} (h : M.chkR x = 0) : M.cntIs (M.partsR x) ≤ 1000 := by
  obtain ⟨h1, h2⟩ := M.chkR_logs h
  have h3 := M.logs_cnt x.logs (fun g hg => (h2 g hg).2.2.1)
  unfold M.partsR
  rw [M.cntIs_app]
  have h4 : M.cntIs (List.take (M.formR x) [M.textI (M.ben x.nonce), M.textI (M.ben 1)]) ≤ 2 := by
    rcases M.formR x with _ | _ | _ <;> simp [M.cntIs, M.textI, M.cntI]
  have h5 : M.cntIs [M.boolI x.st, M.textI (M.ben x.gas), M.listI (x.logs.map M.logI)] = 3 + M.cntIs (x.logs.map M.logI) := by
    simp only [M.cntIs, M.boolI, M.textI, M.listI, M.cntI]
    omega
  omega
/-- Three items that lie in a block of their own. -/
theorem row_three {w : World} {B b : Nat} {x0 x1 : List UInt8} {ts : List M.It} {v : Value} (h : w.heap[b]? = some (.cells #[.bool false, .string ⟨x0.toArray⟩, .slice none 0 0, .bool false, .string ⟨x1.toArray⟩, .slice none 0 0, .bool true, .string ⟨#[]⟩, v] 44 (0, 0)))
    (hB : B ≤ b) (hF : LayS w (fun q => B ≤ q ∧ q < w.heap.size ∧ q ≠ b) ts v) : ItRow B w [(M.textI x0, .slice none 0 0), (M.textI x1, .slice none 0 0), (M.listI ts, v)] (.slice (some ⟨b, 0, none⟩) 3 3) := by
  refine ⟨⟨by simp [c3, M.textI, M.listI], .inr ⟨b, 3, _, rfl, hB, h, Nat.le_refl _, by decide, by simp, by simp [c3, M.textI, M.listI]⟩⟩, fun p hp => ?_⟩
  simp only [List.mem_cons, List.not_mem_nil, or_false] at hp
  rcases hp with rfl | rfl | rfl
  · exact .nil_ (by decide)
  · exact .nil_ (by decide)
  · exact LayS.wider hF fun q ⟨h1, h2, h3⟩ => ⟨h1, h2, fun e => h3 (by simpa [Value.ownBlock] using e)⟩
set_option maxRecDepth 100000 in
set_option maxHeartbeats 8000000 in
theorem rbytesR_any (k : Int) (st : Bool) (ga : Nat) (ls : List M.Lg) (fu : Bool) (no ve : Nat) (a : Option Addr) (cap : Nat) (w : World) (hc : M.chkR ⟨k, st, ga, ls, fu, no, ve⟩ = 0) (hga : ga < 18446744073709551616) (hno : no < 18446744073709551616) (hL : Ls w w.heap.size ls (.slice a ls.length cap)) :
    Calls Tryz.prog 27 #[.agg #[.int .i64 k, .bool st, .int .u64 (ga : Nat), .slice a ls.length cap, .bool fu, .int .u64 (no : Nat), .int .u64 (ve : Nat)]] w fun e w' => e = .returned (.string ⟨(M.bytesR ⟨k, st, ga, ls, fu, no, ve⟩).toArray⟩) ∧ Below w.heap.size w w' := by
  have mixed : Tryz.prog.follows .mixedOrders = true := by kernel_rfl
  obtain ⟨h, hh⟩ : ∃ h, w.heap.size = h := ⟨_, rfl⟩
  obtain ⟨w0, hw0⟩ : ∃ w0, w.alloc (.cells #[.int .i64 k, .bool st, .int .u64 (ga : Nat), .slice a ls.length cap, .bool fu, .int .u64 (no : Nat), .int .u64 (ve : Nat)] 25) = w0 := ⟨_, rfl⟩
  have hb0 : Below w.heap.size w w0 := by rw [← hw0]; exact (Below.refl _ _).alloc (Nat.le_refl _) _
  have hx0 := B7.new w (.int .i64 k) (.bool st) (.int .u64 (ga : Nat)) (.slice a ls.length cap) (.bool fu) (.int .u64 (no : Nat)) (.int .u64 (ve : Nat)) 25
  rw [hw0, hh] at hx0
  have hl16 : ls.length ≤ 16 := (M.chkR_logs hc).1
  have hl6 : ls.length ≤ 600 := by omega
  have ht6 : ∀ g ∈ ls, g.topics.length ≤ 600 := fun g hg => by have := ((M.chkR_logs hc).2 g hg).2.2.1; omega
  have HBO := Lib.hid (fun W => rf_bool st W)
  have hsb : M.boolI st = M.textI (if st then [1] else []) := rfl
  have hsl : (if st then ([1] : List UInt8) else []).length ≤ 1 := by cases st <;> simp
  generalize (if st then ([1] : List UInt8) else []) = sb at HBO hsb hsl
  have HSB := Lib.hid hsb
  have HC := Lib.hid hc
  have HX0 := Lib.hid hx0
  have HB0 := Lib.hid hb0
  have HW0 := Lib.hid hw0
  have HL0 := Lib.hid (hL.kept hb0)
  have HH := Lib.hid hh
  clear hw0 hb0 hx0 hL hc hl16 hh hsb
  have hcn := M.parts_cnt HC.out
  have hpl := M.parts_len HC.out hga hno
  have HCN := Lib.hid hcn
  have hkd : k = 0 ∨ k = 1 ∨ k = 2 ∨ k = 4 ∨ k = 126 := M.kdB_ok (M.chkR_ok HC.out).1
  have hfo := (M.chkR_ok HC.out).2.1
  have hbl : (M.bytesI (M.listI (M.partsR ⟨k, st, ga, ls, fu, no, ve⟩))).length ≤ 200000 := by
    have := (M.hdL_9 (n := (M.bytesIs (M.partsR ⟨k, st, ga, ls, fu, no, ve⟩)).length) (p := 192) (by omega)).2
    unfold M.listI
    rw [M.bytesI]
    simp only [List.length_append]
    omega
  have hbr : M.bytesR ⟨k, st, ga, ls, fu, no, ve⟩ = M.headR k ++ M.bytesI (M.listI (M.partsR ⟨k, st, ga, ls, fu, no, ve⟩)) := rfl
  have HRB := Lib.hid (fun (W : World) (v : Value) (hL : Lay W W.heap.size (M.partsR ⟨k, st, ga, ls, fu, no, ve⟩) v) => rbytes_n _ true [] (M.partsR ⟨k, st, ga, ls, fu, no, ve⟩) v W (Nat.le_refl _) hL HCN.out (by have := hbl; unfold M.listI at this; omega))
  have hbi : M.bytesI (.mk true [] (M.partsR ⟨k, st, ga, ls, fu, no, ve⟩)) = M.bytesI (M.listI (M.partsR ⟨k, st, ga, ls, fu, no, ve⟩)) := rfl
  rw [hbi] at HRB
  obtain ⟨bs, hbs⟩ : ∃ bs, M.bytesI (M.listI (M.partsR ⟨k, st, ga, ls, fu, no, ve⟩)) = bs := ⟨_, rfl⟩
  rw [hbs] at HRB hbl hbr
  have HFO := Lib.hid hfo
  have HKD := Lib.hid hkd
  have HBL := Lib.hid hbl
  rw [hbr]
  obtain ⟨hd, hhd⟩ : ∃ hd, M.headR k = hd := ⟨_, rfl⟩
  rw [hhd]
  have HHD := Lib.hid hhd
  clear hcn hpl hfo hkd hbl hbr hbi hhd hbs
  go_enter Tryz.func27, Tryz.ntmps27
  go_wp2_with fail
  rw [HW0.out]
  rw [HH.out]
  refine wp_region_held (S := Below w0.heap.size w0) mixed ?_
  have hS0 : Below w0.heap.size w0 w0.drew := (Below.refl _ _).drew
  rw [show Array.replicate (Array.size _) false = #[false, false, false, false, false, false, false, false, false, false, false] from rfl, show Array.size (α := Oper) _ = 11 from rfl]
  refine wpAnyH_take (i := 0) (v := .pointer (some ⟨h, 1, none⟩)) rfl (by kernel_rfl) (by kernel_rfl) (by kernel_rfl) (fun _ _ _ h => h) (Or.inl ⟨by rfl, ?_⟩) hS0 ?_
  · intro Y hY
    skip
    go_simp
  simp only [Act.put, List.getElem_toArray, List.getElem_cons_zero, List.setIfInBounds_toArray, List.set_cons_zero, List.set_cons_succ]
  refine wpAnyH_take (i := 1) (v := .bool st) rfl (by kernel_rfl) (by kernel_rfl) (by kernel_rfl) (fun _ _ _ h => h) (Or.inl ⟨by rfl, ?_⟩) hS0 ?_
  · intro Y hY
    obtain ⟨c0, c1, c2, c3, c4, c5, c6⟩ := HX0.out.from_ hY
    go_simp
  simp only [Act.put, List.getElem_toArray, List.getElem_cons_succ, List.getElem_cons_zero, List.setIfInBounds_toArray, List.set_cons_zero, List.set_cons_succ]
  refine wpAnyH_take (i := 3) (v := .pointer (some ⟨h, 2, none⟩)) rfl (by kernel_rfl) (by kernel_rfl) (by kernel_rfl) (fun _ _ _ h => h) (Or.inl ⟨by rfl, ?_⟩) hS0 ?_
  · intro Y hY
    skip
    go_simp
  simp only [Act.put, List.getElem_toArray, List.getElem_cons_succ, List.getElem_cons_zero, List.setIfInBounds_toArray, List.set_cons_zero, List.set_cons_succ]
  refine wpAnyH_take (i := 4) (v := .int .u64 (ga : Nat)) rfl (by kernel_rfl) (by kernel_rfl) (by kernel_rfl) (fun _ _ _ h => h) (Or.inl ⟨by rfl, ?_⟩) hS0 ?_
  · intro Y hY
    obtain ⟨c0, c1, c2, c3, c4, c5, c6⟩ := HX0.out.from_ hY
    go_simp
  simp only [Act.put, List.getElem_toArray, List.getElem_cons_succ, List.getElem_cons_zero, List.setIfInBounds_toArray, List.set_cons_zero, List.set_cons_succ]
  refine wpAnyH_take (i := 6) (v := .pointer (some ⟨h, 3, none⟩)) rfl (by kernel_rfl) (by kernel_rfl) (by kernel_rfl) (fun _ _ _ h => h) (Or.inl ⟨by rfl, ?_⟩) hS0 ?_
  · intro Y hY
    skip
    go_simp
  simp only [Act.put, List.getElem_toArray, List.getElem_cons_succ, List.getElem_cons_zero, List.setIfInBounds_toArray, List.set_cons_zero, List.set_cons_succ]
  refine wpAnyH_take (i := 7) (v := .slice a ls.length cap) rfl (by kernel_rfl) (by kernel_rfl) (by kernel_rfl) (fun _ _ _ h => h) (Or.inl ⟨by rfl, ?_⟩) hS0 ?_
  · intro Y hY
    obtain ⟨c0, c1, c2, c3, c4, c5, c6⟩ := HX0.out.from_ hY
    go_simp
  simp only [Act.put, List.getElem_toArray, List.getElem_cons_succ, List.getElem_cons_zero, List.setIfInBounds_toArray, List.set_cons_zero, List.set_cons_succ]
  refine wpAnyH_ready (rs := [2]) (by kernel_rfl) (by simp) ?_
  refine AllReadyH.cons rfl (fun K hK => ?_) AllReadyH.nil
  go_simp
  refine (HBO.out _).mono ?_
  rintro e w1 ⟨rfl, hb1⟩
  have hS1 : Below w0.heap.size w0 w1 := hS0.trans (Below.mono hb1 hS0.size)
  try go_wp2_with fail
  refine hK.out _ _ hS1 (fun _ => ?_)
  clear hK K
  simp only [List.setIfInBounds_toArray, List.set_cons_zero, List.set_cons_succ]
  refine wpAnyH_ready (rs := [5]) (by kernel_rfl) (by simp) ?_
  refine AllReadyH.cons rfl (fun K hK => ?_) AllReadyH.nil
  go_simp
  refine (rf_number ga _ hga).mono ?_
  rintro e w2 ⟨rfl, hb2⟩
  have hS2 : Below w0.heap.size w0 w2 := hS1.trans (Below.mono hb2 hS1.size)
  try go_wp2_with fail
  refine hK.out _ _ hS2 (fun _ => ?_)
  clear hK K
  simp only [List.setIfInBounds_toArray, List.set_cons_zero, List.set_cons_succ]
  refine wpAnyH_ready (rs := [8]) (by kernel_rfl) (by simp) ?_
  refine AllReadyH.cons rfl (fun K hK => ?_) AllReadyH.nil
  go_simp
  refine (rwritten_any ls a cap w2 (HL0.out.kept hS2) hl6 ht6).mono ?_
  rintro e w3 ⟨⟨va, vc, rfl, hF3⟩, hb3⟩
  have hS3 : Below w0.heap.size w0 w3 := hS2.trans (Below.mono hb3 hS2.size)
  try go_wp2_with fail
  refine hK.out _ _ hS3 (fun _ => ?_)
  clear hK K
  simp only [List.setIfInBounds_toArray, List.set_cons_zero, List.set_cons_succ]
  refine wpAnyH_ready (rs := [9]) (by kernel_rfl) (by simp) ?_
  refine AllReadyH.cons rfl (fun K hK => ?_) AllReadyH.nil
  go_simp
  obtain ⟨w4, hw4⟩ : ∃ w4, w3.alloc (.cells #[.bool false, .string ⟨sb.toArray⟩, .slice none 0 0, .bool false, .string ⟨(M.ben ga).toArray⟩, .slice none 0 0, .bool true, .string ⟨#[]⟩, .slice va ls.length vc] 44) = w4 := ⟨_, rfl⟩
  have hS4 : Below w0.heap.size w0 w4 := by rw [← hw4]; exact hS3.alloc hS3.size _
  try rw [hw4]
  refine hK.out _ _ hS4 (fun _ => ?_)
  clear hK K
  simp only [List.setIfInBounds_toArray, List.set_cons_zero, List.set_cons_succ]
  refine wpAnyH_take (i := 10) (v := .slice (some ⟨w3.heap.size, 0, none⟩) 3 3) rfl (by kernel_rfl) (by kernel_rfl) (by kernel_rfl) (fun _ _ _ h => h) (Or.inl ⟨by rfl, ?_⟩) hS4 ?_
  · intro Y hY
    skip
    go_simp
  simp only [Act.put, List.getElem_toArray, List.getElem_cons_succ, List.getElem_cons_zero, List.setIfInBounds_toArray, List.set_cons_zero, List.set_cons_succ]
  refine wpAnyH_done (by kernel_rfl) ?_ _
  have hb34 : Below w3.heap.size w3 w4 := by rw [← hw4]; exact (Below.refl _ w3).alloc (Nat.le_refl _) _
  have hz4 : w4.heap.size = w3.heap.size + 1 := by rw [← hw4]; simp
  have hrow4 : w4.heap[w3.heap.size]? = some (.cells #[.bool false, .string ⟨sb.toArray⟩, .slice none 0 0, .bool false, .string ⟨(M.ben ga).toArray⟩, .slice none 0 0, .bool true, .string ⟨#[]⟩, .slice va ls.length vc] 44 (0, 0)) := by rw [← hw4]; exact heap_alloc_new w3 _
  have hF4 : LayS w4 (fun q => w0.heap.size ≤ q ∧ q < w4.heap.size ∧ q ≠ w3.heap.size) (ls.map M.logI) (.slice va ls.length vc) :=
    LayS.keep hF3 fun q ⟨h1, h2⟩ => ⟨⟨Nat.le_trans hS2.size h1, by omega, by omega⟩, hb34.block q h2⟩
  have hR4 : ItRow w0.heap.size w4 [(M.textI sb, .slice none 0 0), (M.textI (M.ben ga), .slice none 0 0), (M.listI (ls.map M.logI), .slice va ls.length vc)] (.slice (some ⟨w3.heap.size, 0, none⟩) 3 3) :=
    row_three hrow4 hS3.size hF4
  have HR4 := Lib.hid hR4
  have HS4 := Lib.hid hS4
  clear hrow4 hR4 hw4 hF3 hF4
  have hZ4 := hS4.size
  have HZ4 := Lib.hid hZ4
  obtain ⟨c0, c1, c2, c3, c4, c5, c6⟩ := HX0.out.from_ hS4
  clear c0 c1 c2 c3 c5 c6
  cases fu with
  | false =>
    have hp : M.partsR ⟨k, st, ga, ls, false, no, ve⟩ = [M.textI sb, M.textI (M.ben ga), M.listI (ls.map M.logI)] := by
      unfold M.partsR
      rw [← HSB.out]
      rfl
    have hly : Lay w4 w4.heap.size (M.partsR ⟨k, st, ga, ls, false, no, ve⟩) (.slice (some ⟨w3.heap.size, 0, none⟩) 3 3) := by
      rw [hp]
      exact HR4.out.fresh.lay
    have HLY := Lib.hid hly
    have HBF := Lib.hid hS4
    clear hly hp hb1 hb2 hb3 hb34 hz4 hS0 hS1 hS2 hS3 hZ4
    go_wp2_with fail
    refine (rf_listI _ _ _ _).mono ?_
    rintro e w8 ⟨rfl, hb8⟩
    have hL8 := (HLY.out.from_ hb8).mono hb8.size
    go_wp2_with fail
    refine (HRB.out w8 _ hL8).mono ?_
    rintro e w9 ⟨rfl, hb9⟩
    have hB9 := HBF.out.trans ((hb8.mono HBF.out.size).trans (hb9.mono (Nat.le_trans HBF.out.size hb8.size)))
    obtain ⟨c0, c1, c2, c3, c4, c5, c6⟩ := HX0.out.from_ hB9
    clear c1 c2 c3 c4 c5 c6 hL8
    have HB9 := Lib.hid (HB0.out.trans (hB9.mono HB0.out.size))
    have hbl := HBL.out
    rcases HKD.out with rfl | rfl | rfl | rfl | rfl
    · go_wp2_with fail
      go_ret
      refine ⟨?_, HB9.out⟩
      rw [← HHD.out]
      simp [M.headR]
    · have h1 : (w9.alloc (.cells #[.int .u8 1] 5)).cell? ⟨w9.heap.size, 0, none⟩ = some (.int .u8 1) := by simp [go_sem]
      have hcv : (convert 75 9 (.slice (some ⟨w9.heap.size, 0, none⟩) 1 1)).run Tryz.prog (w9.alloc (.cells #[.int .u8 1] 5)) = .ok (.string ⟨#[1]⟩) (w9.alloc (.cells #[.int .u8 1] 5)) := conv_at [1] (w9.alloc (.cells #[.int .u8 1] 5)) w9.heap.size (fun j hj => by match j, hj with | 0, _ => exact h1)
      have hsz1 : ([1] ++ bs : List UInt8).length ≤ 200001 := by simp; omega
      clear h1
      go_wp2_with fail
      go_ret
      refine ⟨?_, HB9.out.alloc HB9.out.size _⟩
      rw [← HHD.out]
      simp [M.headR]
      exact ByteArray.ext (by simp)
    · have h1 : (w9.alloc (.cells #[.int .u8 2] 5)).cell? ⟨w9.heap.size, 0, none⟩ = some (.int .u8 2) := by simp [go_sem]
      have hcv : (convert 75 9 (.slice (some ⟨w9.heap.size, 0, none⟩) 1 1)).run Tryz.prog (w9.alloc (.cells #[.int .u8 2] 5)) = .ok (.string ⟨#[2]⟩) (w9.alloc (.cells #[.int .u8 2] 5)) := conv_at [2] (w9.alloc (.cells #[.int .u8 2] 5)) w9.heap.size (fun j hj => by match j, hj with | 0, _ => exact h1)
      have hsz1 : ([2] ++ bs : List UInt8).length ≤ 200001 := by simp; omega
      clear h1
      go_wp2_with fail
      go_ret
      refine ⟨?_, HB9.out.alloc HB9.out.size _⟩
      rw [← HHD.out]
      simp [M.headR]
      exact ByteArray.ext (by simp)
    · have h1 : (w9.alloc (.cells #[.int .u8 4] 5)).cell? ⟨w9.heap.size, 0, none⟩ = some (.int .u8 4) := by simp [go_sem]
      have hcv : (convert 75 9 (.slice (some ⟨w9.heap.size, 0, none⟩) 1 1)).run Tryz.prog (w9.alloc (.cells #[.int .u8 4] 5)) = .ok (.string ⟨#[4]⟩) (w9.alloc (.cells #[.int .u8 4] 5)) := conv_at [4] (w9.alloc (.cells #[.int .u8 4] 5)) w9.heap.size (fun j hj => by match j, hj with | 0, _ => exact h1)
      have hsz1 : ([4] ++ bs : List UInt8).length ≤ 200001 := by simp; omega
      clear h1
      go_wp2_with fail
      go_ret
      refine ⟨?_, HB9.out.alloc HB9.out.size _⟩
      rw [← HHD.out]
      simp [M.headR]
      exact ByteArray.ext (by simp)
    · have h1 : (w9.alloc (.cells #[.int .u8 126] 5)).cell? ⟨w9.heap.size, 0, none⟩ = some (.int .u8 126) := by simp [go_sem]
      have hcv : (convert 75 9 (.slice (some ⟨w9.heap.size, 0, none⟩) 1 1)).run Tryz.prog (w9.alloc (.cells #[.int .u8 126] 5)) = .ok (.string ⟨#[126]⟩) (w9.alloc (.cells #[.int .u8 126] 5)) := conv_at [126] (w9.alloc (.cells #[.int .u8 126] 5)) w9.heap.size (fun j hj => by match j, hj with | 0, _ => exact h1)
      have hsz1 : ([126] ++ bs : List UInt8).length ≤ 200001 := by simp; omega
      clear h1
      go_wp2_with fail
      go_ret
      refine ⟨?_, HB9.out.alloc HB9.out.size _⟩
      rw [← HHD.out]
      simp [M.headR]
      exact ByteArray.ext (by simp)
  | true =>
    have HS4b := Lib.hid hS4
    clear hb1 hb2 hb3 hb34 hz4 hS0 hS1 hS2 hS3 hZ4 hS4
    obtain ⟨d0, d1, d2, d3, d4, d5, d6⟩ := HX0.out.from_ HS4b.out
    clear d0 d1 d2 d3 d4 d6
    go_wp2_with fail
    refine (rf_number no _ hno).mono ?_
    rintro e w5 ⟨rfl, hb5⟩
    have hR5 := HR4.out.from_ hb5
    have hB5 := HS4b.out.trans (hb5.mono HS4b.out.size)
    obtain ⟨w6, hw6⟩ : ∃ w6, w5.alloc (.cells #[.bool false, .string ⟨(M.ben no).toArray⟩, .slice none 0 0] 44) = w6 := ⟨_, rfl⟩
    have hb56 : Below w5.heap.size w5 w6 := by rw [← hw6]; exact (Below.refl _ _).alloc (Nat.le_refl _) _
    have hR6 := hR5.from_ hb56
    have hB6 := hB5.trans (hb56.mono hB5.size)
    have hnews : ∀ j x, ([.bool false, .string ⟨(M.ben no).toArray⟩, .slice none 0 0] : List Value)[j]? = some x → w6.cell? ((⟨w5.heap.size, 0, none⟩ : Addr).add j) = some x := by
      intro j x hx
      rw [← hw6, addr_add, World.cell?_alloc_at _ _ _ _ (by simp)]
      simpa using hx
    obtain ⟨v', w7, hr7, hrow7, hg7, hloc7⟩ := item_append hR6 hB6.size (by show (3 : Nat) ≤ _; omega) 42 ⟨w5.heap.size, 0, none⟩ 1 false (M.ben no) [] (.slice none 0 0) hnews rfl (.nil_ (by decide))
    have hB7 : Below w0.heap.size w0 w7 := hB6.grown hg7 hB6.size (fun j e => (World.ownsRow.lt hR6.own j e).1)
    obtain ⟨va7, vc7, rfl⟩ : ∃ a c, v' = .slice a 4 c := by obtain ⟨a, c, h⟩ := hrow7.slice; exact ⟨a, c, by simpa using h⟩
    obtain ⟨d0, d1, d2, d3, d4, d5', d6⟩ := HX0.out.from_ hB7
    clear d0 d1 d2 d3 d5'
    have HR7 := Lib.hid hrow7
    have HB7 := Lib.hid hB7
    have HW6 := Lib.hid hw6
    have HA7 := Lib.hid hr7
    clear hw6 hr7 hrow7 hB7 hB6 hB5 hR5 hR6 hnews hb5 hb56 hg7 hloc7 c4 d5
    by_cases hv : ve = 0
    · subst hv
      have hp : M.partsR ⟨k, st, ga, ls, true, no, 0⟩ = [M.textI sb, M.textI (M.ben ga), M.listI (ls.map M.logI), M.textI (M.ben no)] := by
        unfold M.partsR
        rw [← HSB.out]
        rfl
      have hly : Lay w7 w7.heap.size (M.partsR ⟨k, st, ga, ls, true, no, 0⟩) (.slice va7 4 vc7) := by
        rw [hp]
        exact HR7.out.fresh.lay
      have HLY := Lib.hid hly
      have HBF := HB7
      clear hly hp
      go_wp2_with (at_builtin; refine wpList_append_run rfl _ _ _ rfl _ _ _ rfl rfl (by rw [HW6.out]; exact HA7.out) ?_)
      refine (rf_listI _ _ _ _).mono ?_
      rintro e w8 ⟨rfl, hb8⟩
      have hL8 := (HLY.out.from_ hb8).mono hb8.size
      go_wp2_with fail
      refine (HRB.out w8 _ hL8).mono ?_
      rintro e w9 ⟨rfl, hb9⟩
      have hB9 := HBF.out.trans ((hb8.mono HBF.out.size).trans (hb9.mono (Nat.le_trans HBF.out.size hb8.size)))
      obtain ⟨c0, c1, c2, c3, c4, c5, c6⟩ := HX0.out.from_ hB9
      clear c1 c2 c3 c4 c5 c6 hL8
      have HB9 := Lib.hid (HB0.out.trans (hB9.mono HB0.out.size))
      have hbl := HBL.out
      rcases HKD.out with rfl | rfl | rfl | rfl | rfl
      · go_wp2_with fail
        go_ret
        refine ⟨?_, HB9.out⟩
        rw [← HHD.out]
        simp [M.headR]
      · have h1 : (w9.alloc (.cells #[.int .u8 1] 5)).cell? ⟨w9.heap.size, 0, none⟩ = some (.int .u8 1) := by simp [go_sem]
        have hcv : (convert 75 9 (.slice (some ⟨w9.heap.size, 0, none⟩) 1 1)).run Tryz.prog (w9.alloc (.cells #[.int .u8 1] 5)) = .ok (.string ⟨#[1]⟩) (w9.alloc (.cells #[.int .u8 1] 5)) := conv_at [1] (w9.alloc (.cells #[.int .u8 1] 5)) w9.heap.size (fun j hj => by match j, hj with | 0, _ => exact h1)
        have hsz1 : ([1] ++ bs : List UInt8).length ≤ 200001 := by simp; omega
        clear h1
        go_wp2_with fail
        go_ret
        refine ⟨?_, HB9.out.alloc HB9.out.size _⟩
        rw [← HHD.out]
        simp [M.headR]
        exact ByteArray.ext (by simp)
      · have h1 : (w9.alloc (.cells #[.int .u8 2] 5)).cell? ⟨w9.heap.size, 0, none⟩ = some (.int .u8 2) := by simp [go_sem]
        have hcv : (convert 75 9 (.slice (some ⟨w9.heap.size, 0, none⟩) 1 1)).run Tryz.prog (w9.alloc (.cells #[.int .u8 2] 5)) = .ok (.string ⟨#[2]⟩) (w9.alloc (.cells #[.int .u8 2] 5)) := conv_at [2] (w9.alloc (.cells #[.int .u8 2] 5)) w9.heap.size (fun j hj => by match j, hj with | 0, _ => exact h1)
        have hsz1 : ([2] ++ bs : List UInt8).length ≤ 200001 := by simp; omega
        clear h1
        go_wp2_with fail
        go_ret
        refine ⟨?_, HB9.out.alloc HB9.out.size _⟩
        rw [← HHD.out]
        simp [M.headR]
        exact ByteArray.ext (by simp)
      · have h1 : (w9.alloc (.cells #[.int .u8 4] 5)).cell? ⟨w9.heap.size, 0, none⟩ = some (.int .u8 4) := by simp [go_sem]
        have hcv : (convert 75 9 (.slice (some ⟨w9.heap.size, 0, none⟩) 1 1)).run Tryz.prog (w9.alloc (.cells #[.int .u8 4] 5)) = .ok (.string ⟨#[4]⟩) (w9.alloc (.cells #[.int .u8 4] 5)) := conv_at [4] (w9.alloc (.cells #[.int .u8 4] 5)) w9.heap.size (fun j hj => by match j, hj with | 0, _ => exact h1)
        have hsz1 : ([4] ++ bs : List UInt8).length ≤ 200001 := by simp; omega
        clear h1
        go_wp2_with fail
        go_ret
        refine ⟨?_, HB9.out.alloc HB9.out.size _⟩
        rw [← HHD.out]
        simp [M.headR]
        exact ByteArray.ext (by simp)
      · have h1 : (w9.alloc (.cells #[.int .u8 126] 5)).cell? ⟨w9.heap.size, 0, none⟩ = some (.int .u8 126) := by simp [go_sem]
        have hcv : (convert 75 9 (.slice (some ⟨w9.heap.size, 0, none⟩) 1 1)).run Tryz.prog (w9.alloc (.cells #[.int .u8 126] 5)) = .ok (.string ⟨#[126]⟩) (w9.alloc (.cells #[.int .u8 126] 5)) := conv_at [126] (w9.alloc (.cells #[.int .u8 126] 5)) w9.heap.size (fun j hj => by match j, hj with | 0, _ => exact h1)
        have hsz1 : ([126] ++ bs : List UInt8).length ≤ 200001 := by simp; omega
        clear h1
        go_wp2_with fail
        go_ret
        refine ⟨?_, HB9.out.alloc HB9.out.size _⟩
        rw [← HHD.out]
        simp [M.headR]
        exact ByteArray.ext (by simp)
    · obtain rfl : ve = 1 := by
        have h1 := HFO.out
        unfold M.formedR at h1
        simp at h1
        omega
      have hp : M.partsR ⟨k, st, ga, ls, true, no, 1⟩ = [M.textI sb, M.textI (M.ben ga), M.listI (ls.map M.logI), M.textI (M.ben no), M.textI (M.ben 1)] := by
        unfold M.partsR
        rw [← HSB.out]
        rfl
      clear hv
      go_wp2_with (at_builtin; refine wpList_append_run rfl _ _ _ rfl _ _ _ rfl rfl (by rw [HW6.out]; exact HA7.out) ?_)
      refine (rf_number 1 _ (by decide)).mono ?_
      rintro e w10 ⟨rfl, hb10⟩
      have hR10 := HR7.out.from_ hb10
      have hB10 := HB7.out.trans (hb10.mono HB7.out.size)
      obtain ⟨w11, hw11⟩ : ∃ w11, w10.alloc (.cells #[.bool false, .string ⟨(M.ben 1).toArray⟩, .slice none 0 0] 44) = w11 := ⟨_, rfl⟩
      have hb1011 : Below w10.heap.size w10 w11 := by rw [← hw11]; exact (Below.refl _ _).alloc (Nat.le_refl _) _
      have hR11 := hR10.from_ hb1011
      have hB11 := hB10.trans (hb1011.mono hB10.size)
      have hnews : ∀ j x, ([.bool false, .string ⟨(M.ben 1).toArray⟩, .slice none 0 0] : List Value)[j]? = some x → w11.cell? ((⟨w10.heap.size, 0, none⟩ : Addr).add j) = some x := by
        intro j x hx
        rw [← hw11, addr_add, World.cell?_alloc_at _ _ _ _ (by simp)]
        simpa using hx
      obtain ⟨v', w12, hr12, hrow12, hg12, hloc12⟩ := item_append hR11 hB11.size (by show (4 : Nat) ≤ _; omega) 42 ⟨w10.heap.size, 0, none⟩ 1 false (M.ben 1) [] (.slice none 0 0) hnews rfl (.nil_ (by decide))
      have hB12 : Below w0.heap.size w0 w12 := hB11.grown hg12 hB11.size (fun j e => (World.ownsRow.lt hR11.own j e).1)
      obtain ⟨vaB, vcB, rfl⟩ : ∃ a c, v' = .slice a 5 c := by obtain ⟨a, c, h⟩ := hrow12.slice; exact ⟨a, c, by simpa using h⟩
      have hly : Lay w12 w12.heap.size (M.partsR ⟨k, st, ga, ls, true, no, 1⟩) (.slice vaB 5 vcB) := by
        rw [hp]
        exact hrow12.fresh.lay
      have HLY := Lib.hid hly
      have HBF := Lib.hid hB12
      have HW11 := Lib.hid hw11
      have HA12 := Lib.hid hr12
      clear hly hp hw11 hr12 hrow12 hB12 hB11 hB10 hR10 hR11 hnews hb10 hb1011 hg12 hloc12 d4 d6
      go_wp2_with (at_builtin; refine wpList_append_run rfl _ _ _ rfl _ _ _ rfl rfl (by rw [HW11.out]; exact HA12.out) ?_)
      refine (rf_listI _ _ _ _).mono ?_
      rintro e w8 ⟨rfl, hb8⟩
      have hL8 := (HLY.out.from_ hb8).mono hb8.size
      go_wp2_with fail
      refine (HRB.out w8 _ hL8).mono ?_
      rintro e w9 ⟨rfl, hb9⟩
      have hB9 := HBF.out.trans ((hb8.mono HBF.out.size).trans (hb9.mono (Nat.le_trans HBF.out.size hb8.size)))
      obtain ⟨c0, c1, c2, c3, c4, c5, c6⟩ := HX0.out.from_ hB9
      clear c1 c2 c3 c4 c5 c6 hL8
      have HB9 := Lib.hid (HB0.out.trans (hB9.mono HB0.out.size))
      have hbl := HBL.out
      rcases HKD.out with rfl | rfl | rfl | rfl | rfl
      · go_wp2_with fail
        go_ret
        refine ⟨?_, HB9.out⟩
        rw [← HHD.out]
        simp [M.headR]
      · have h1 : (w9.alloc (.cells #[.int .u8 1] 5)).cell? ⟨w9.heap.size, 0, none⟩ = some (.int .u8 1) := by simp [go_sem]
        have hcv : (convert 75 9 (.slice (some ⟨w9.heap.size, 0, none⟩) 1 1)).run Tryz.prog (w9.alloc (.cells #[.int .u8 1] 5)) = .ok (.string ⟨#[1]⟩) (w9.alloc (.cells #[.int .u8 1] 5)) := conv_at [1] (w9.alloc (.cells #[.int .u8 1] 5)) w9.heap.size (fun j hj => by match j, hj with | 0, _ => exact h1)
        have hsz1 : ([1] ++ bs : List UInt8).length ≤ 200001 := by simp; omega
        clear h1
        go_wp2_with fail
        go_ret
        refine ⟨?_, HB9.out.alloc HB9.out.size _⟩
        rw [← HHD.out]
        simp [M.headR]
        exact ByteArray.ext (by simp)
      · have h1 : (w9.alloc (.cells #[.int .u8 2] 5)).cell? ⟨w9.heap.size, 0, none⟩ = some (.int .u8 2) := by simp [go_sem]
        have hcv : (convert 75 9 (.slice (some ⟨w9.heap.size, 0, none⟩) 1 1)).run Tryz.prog (w9.alloc (.cells #[.int .u8 2] 5)) = .ok (.string ⟨#[2]⟩) (w9.alloc (.cells #[.int .u8 2] 5)) := conv_at [2] (w9.alloc (.cells #[.int .u8 2] 5)) w9.heap.size (fun j hj => by match j, hj with | 0, _ => exact h1)
        have hsz1 : ([2] ++ bs : List UInt8).length ≤ 200001 := by simp; omega
        clear h1
        go_wp2_with fail
        go_ret
        refine ⟨?_, HB9.out.alloc HB9.out.size _⟩
        rw [← HHD.out]
        simp [M.headR]
        exact ByteArray.ext (by simp)
      · have h1 : (w9.alloc (.cells #[.int .u8 4] 5)).cell? ⟨w9.heap.size, 0, none⟩ = some (.int .u8 4) := by simp [go_sem]
        have hcv : (convert 75 9 (.slice (some ⟨w9.heap.size, 0, none⟩) 1 1)).run Tryz.prog (w9.alloc (.cells #[.int .u8 4] 5)) = .ok (.string ⟨#[4]⟩) (w9.alloc (.cells #[.int .u8 4] 5)) := conv_at [4] (w9.alloc (.cells #[.int .u8 4] 5)) w9.heap.size (fun j hj => by match j, hj with | 0, _ => exact h1)
        have hsz1 : ([4] ++ bs : List UInt8).length ≤ 200001 := by simp; omega
        clear h1
        go_wp2_with fail
        go_ret
        refine ⟨?_, HB9.out.alloc HB9.out.size _⟩
        rw [← HHD.out]
        simp [M.headR]
        exact ByteArray.ext (by simp)
      · have h1 : (w9.alloc (.cells #[.int .u8 126] 5)).cell? ⟨w9.heap.size, 0, none⟩ = some (.int .u8 126) := by simp [go_sem]
        have hcv : (convert 75 9 (.slice (some ⟨w9.heap.size, 0, none⟩) 1 1)).run Tryz.prog (w9.alloc (.cells #[.int .u8 126] 5)) = .ok (.string ⟨#[126]⟩) (w9.alloc (.cells #[.int .u8 126] 5)) := conv_at [126] (w9.alloc (.cells #[.int .u8 126] 5)) w9.heap.size (fun j hj => by match j, hj with | 0, _ => exact h1)
        have hsz1 : ([126] ++ bs : List UInt8).length ≤ 200001 := by simp; omega
        clear h1
        go_wp2_with fail
        go_ret
        refine ⟨?_, HB9.out.alloc HB9.out.size _⟩
        rw [← HHD.out]
        simp [M.headR]
        exact ByteArray.ext (by simp)
end Go.Proofs.YtcbggjdpjjdfmaaGreatDoor
namespace Go.Proofs.YtcbggjdpjjdfmaaGreatDoor
open Go Go.RowKit Go.Lib
attribute [local go_sem] Oper.semAt_some

set_option maxRecDepth 100000 in
set_option maxHeartbeats 8000000 in
theorem rencodeR_any (k : Int) (st : Bool) (ga : Nat) (ls : List M.Lg) (fu : Bool) (no ve : Nat) (a : Option Addr) (cap : Nat) (w : World) (hF : FewL ls) (hga : ga < 18446744073709551616) (hno : no < 18446744073709551616) (hL : Ls w w.heap.size ls (.slice a ls.length cap)) :
    Calls Tryz.prog 10 #[.agg #[.int .i64 k, .bool st, .int .u64 (ga : Nat), .slice a ls.length cap, .bool fu, .int .u64 (no : Nat), .int .u64 (ve : Nat)]] w fun e w' => e = .returned (.tuple #[.string ⟨(M.encR ⟨k, st, ga, ls, fu, no, ve⟩).1.toArray⟩, .int .i64 ((M.encR ⟨k, st, ga, ls, fu, no, ve⟩).2 : Nat)]) ∧ Below w.heap.size w w' := by
  obtain ⟨h, hh⟩ : ∃ h, w.heap.size = h := ⟨_, rfl⟩
  obtain ⟨w0, hw0⟩ : ∃ w0, w.alloc (.cells #[.int .i64 k, .bool st, .int .u64 (ga : Nat), .slice a ls.length cap, .bool fu, .int .u64 (no : Nat), .int .u64 (ve : Nat)] 25) = w0 := ⟨_, rfl⟩
  have hb0 : Below w.heap.size w w0 := by rw [← hw0]; exact (Below.refl _ _).alloc (Nat.le_refl _) _
  have hx0 := B7.new w (.int .i64 k) (.bool st) (.int .u64 (ga : Nat)) (.slice a ls.length cap) (.bool fu) (.int .u64 (no : Nat)) (.int .u64 (ve : Nat)) 25
  rw [hw0, hh] at hx0
  have HW0 := Lib.hid hw0
  have HB0 := Lib.hid hb0
  have HL0 := Lib.hid (hL.kept hb0)
  have HX0 := Lib.hid hx0
  have HC := Lib.hid (fun W hL => rcheckR_any k st ga ls fu no ve a cap W hF hL)
  have HB := Lib.hid (fun (hc : M.chkR ⟨k, st, ga, ls, fu, no, ve⟩ = 0) W hL => rbytesR_any k st ga ls fu no ve a cap W hc hga hno hL)
  clear hw0 hb0 hL hx0
  obtain ⟨rs, re, hre⟩ : ∃ rs re, M.encR ⟨k, st, ga, ls, fu, no, ve⟩ = (rs, re) := ⟨_, _, rfl⟩
  rw [hre]
  dsimp only
  obtain ⟨cx, hcx⟩ : ∃ cx, M.chkR ⟨k, st, ga, ls, fu, no, ve⟩ = cx := ⟨_, rfl⟩
  obtain ⟨bx, hbx⟩ : ∃ bx, M.bytesR ⟨k, st, ga, ls, fu, no, ve⟩ = bx := ⟨_, rfl⟩
  rw [hcx] at HC HB
  rw [hbx] at HB
  unfold M.encR at hre
  rw [hcx, hbx] at hre
  clear hcx hbx
  obtain ⟨c0, c1, c2, c3, c4, c5, c6⟩ := HX0.out
  go_enter Tryz.func10, Tryz.ntmps10
  go_wp2_with (first | rw [HW0.out] | rw [hh])
  try rw [HW0.out]
  refine (HC.out _ HL0.out).mono ?_
  rintro e w1 ⟨rfl, hb1⟩
  have hx1 := HX0.out.from_ hb1
  have hl1 := HL0.out.kept hb1
  have HB1 := Lib.hid (HB0.out.trans (hb1.mono HB0.out.size))
  clear c0 c1 c2 c3 c4 c5 c6
  obtain ⟨c0, c1, c2, c3, c4, c5, c6⟩ := hx1
  by_cases hc : cx = 0
  · subst hc
    obtain ⟨rfl, rfl⟩ : bx = rs ∧ 0 = re := by simpa using hre
    have HBY := Lib.hid (HB.out rfl w1 hl1)
    clear hre HB HC hl1
    go_wp2_with fail
    refine HBY.out.mono ?_
    rintro e w2 ⟨rfl, hb2⟩
    go_wp2_with fail
    go_ret2
    exact ⟨rfl, HB1.out.trans (hb2.mono HB1.out.size)⟩
  · obtain ⟨rfl, rfl⟩ : [] = rs ∧ cx = re := by rw [if_neg hc] at hre; simpa using hre
    have hx1 : ((cx : Int) == 0) = false := by simp [hc]
    have hx2 : ¬ (cx : Int) = 0 := by omega
    clear hre HB HC
    go_wp2_with fail
    go_ret2
    exact ⟨rfl, HB1.out⟩
set_option maxRecDepth 100000 in
set_option maxHeartbeats 8000000 in
theorem encodes11_law (k : Int) (st : Bool) (ga : Nat) (ls : List M.Lg) (a : Option Addr) (cap : Nat) (fu : Bool) (no ve : Nat) (k2 : Int) (st2 : Bool) (ga2 : Nat) (ms : List M.Lg) (b : Option Addr) (cb : Nat) (fu2 : Bool) (no2 ve2 : Nat) (w : World) (hh : Hdl w) (hL : Ls w w.heap.size ls (.slice a ls.length cap)) (hM : Ls w w.heap.size ms (.slice b ms.length cb)) (hga : ga < 18446744073709551616) (hno : no < 18446744073709551616) :
    Calls Tryz.prog 3 #[.agg #[.int .i64 k, .bool st, .int .u64 (ga : Nat), .slice a ls.length cap, .bool fu, .int .u64 (no : Nat), .int .u64 (ve : Nat)], .agg #[.int .i64 k2, .bool st2, .int .u64 (ga2 : Nat), .slice b ms.length cb, .bool fu2, .int .u64 (no2 : Nat), .int .u64 (ve2 : Nat)]] w fun e w' => e = .returned (.bool true) ∧ Below w.heap.size w w' := by
  have mixed : Tryz.prog.follows .mixedOrders = true := by kernel_rfl
  obtain ⟨h, hhs⟩ : ∃ h, w.heap.size = h := ⟨_, rfl⟩
  obtain ⟨w0, hw0⟩ : ∃ w0, (w.alloc (.cells #[.int .i64 k, .bool st, .int .u64 (ga : Nat), .slice a ls.length cap, .bool fu, .int .u64 (no : Nat), .int .u64 (ve : Nat)] 25)).alloc (.cells #[.int .i64 k2, .bool st2, .int .u64 (ga2 : Nat), .slice b ms.length cb, .bool fu2, .int .u64 (no2 : Nat), .int .u64 (ve2 : Nat)] 25) = w0 := ⟨_, rfl⟩
  have hb0 : Below w.heap.size w w0 := by rw [← hw0]; (repeat (first | exact Below.refl _ _ | refine Below.drew ?_ | refine Below.alloc ?_ (by first | omega | (simp; omega) | simp) _ | refine Below.setCell ?_ (by first | omega | (simp; omega) | simp) _))
  have hx0 : B7 w0 h (.int .i64 k) (.bool st) (.int .u64 (ga : Nat)) (.slice a ls.length cap) (.bool fu) (.int .u64 (no : Nat)) (.int .u64 (ve : Nat)) := by
    rw [← hw0, ← hhs]
    exact (B7.new w _ _ _ _ _ _ _ _).from_ ((Below.refl _ _).alloc (Nat.le_refl _) _)
  have hy0 : B7 w0 (h + 1) (.int .i64 k2) (.bool st2) (.int .u64 (ga2 : Nat)) (.slice b ms.length cb) (.bool fu2) (.int .u64 (no2 : Nat)) (.int .u64 (ve2 : Nat)) := by
    rw [← hw0, ← hhs]
    have := B7.new (w.alloc (.cells #[.int .i64 k, .bool st, .int .u64 (ga : Nat), .slice a ls.length cap, .bool fu, .int .u64 (no : Nat), .int .u64 (ve : Nat)] 25)) (.int .i64 k2) (.bool st2) (.int .u64 (ga2 : Nat)) (.slice b ms.length cb) (.bool fu2) (.int .u64 (no2 : Nat)) (.int .u64 (ve2 : Nat)) 25
    rwa [World.size_alloc] at this
  have hh0 := hh.kept hb0
  have HWK := Lib.hid (works11 w0 hh0)
  have HW0 := Lib.hid hw0
  have HB0 := Lib.hid hb0
  have HL0 := Lib.hid (hL.kept hb0)
  have HM0 := Lib.hid (hM.kept hb0)
  have HX0 := Lib.hid hx0
  have HY0 := Lib.hid hy0
  clear hw0 hb0 hh hL hM hh0 hx0 hy0
  obtain ⟨c0, c1, c2, c3, c4, c5, c6⟩ := HX0.out
  obtain ⟨d0, d1, d2, d3, d4, d5, d6⟩ := HY0.out
  go_enter Tryz.func3, Tryz.ntmps3
  clear c0 c1 c2 c3 c4 c5 c6
  clear d0 d1 d2 d3 d4 d5 d6
  go_wp2_with (first | rw [HW0.out] | rw [hhs])
  refine HWK.out.mono ?_
  rintro e w1 ⟨rfl, hb_⟩
  have HB1 := Lib.hid (HB0.out.trans (hb_.mono HB0.out.size))
  have HL1 := Lib.hid (HL0.out.kept hb_)
  have HM1 := Lib.hid (HM0.out.kept hb_)
  have HX1 := Lib.hid (HX0.out.from_ hb_)
  have HY1 := Lib.hid (HY0.out.from_ hb_)
  clear hb_ HB0 HL0 HM0 HX0 HY0
  clear HWK
  obtain ⟨c0, c1, c2, c3, c4, c5, c6⟩ := HX1.out
  go_wp2_with fail
  refine (rfew_any k st ga ls fu no ve a cap w1 HL1.out).mono ?_
  rintro e w2 ⟨⟨q, rfl, hq⟩, hb_⟩
  clear c0 c1 c2 c3 c4 c5 c6
  have HB2 := Lib.hid (HB1.out.trans (hb_.mono HB1.out.size))
  have HL2 := Lib.hid (HL1.out.kept hb_)
  have HM2 := Lib.hid (HM1.out.kept hb_)
  have HX2 := Lib.hid (HX1.out.from_ hb_)
  have HY2 := Lib.hid (HY1.out.from_ hb_)
  clear hb_ HB1 HL1 HM1 HX1 HY1
  cases q with
  | false =>
    go_wp2_with fail
    go_ret
    exact ⟨rfl, HB2.out⟩
  | true =>
    have HFX := Lib.hid (M.fewX_few (hq rfl))
    have HFX2 := Lib.hid (hq rfl)
    clear hq
    obtain ⟨d0, d1, d2, d3, d4, d5, d6⟩ := HY2.out
    go_wp2_with fail
    refine (rfew_any k2 st2 ga2 ms fu2 no2 ve2 b cb w2 HM2.out).mono ?_
    rintro e w3 ⟨⟨q, rfl, hq⟩, hb_⟩
    clear d0 d1 d2 d3 d4 d5 d6
    have HB3 := Lib.hid (HB2.out.trans (hb_.mono HB2.out.size))
    have HL3 := Lib.hid (HL2.out.kept hb_)
    have HM3 := Lib.hid (HM2.out.kept hb_)
    have HX3 := Lib.hid (HX2.out.from_ hb_)
    have HY3 := Lib.hid (HY2.out.from_ hb_)
    clear hb_ HB2 HL2 HM2 HX2 HY2
    cases q with
    | false =>
      go_wp2_with fail
      go_ret
      exact ⟨rfl, HB3.out⟩
    | true =>
      have HFY2 := Lib.hid (hq rfl)
      clear hq
      have HRA := Lib.hid (⟨by have := HFX2.out.1; omega, fun g hg => by have := (HFX2.out.2 g hg).2.1; omega⟩ : FewR ls)
      have HRB := Lib.hid (⟨by have := HFY2.out.1; omega, fun g hg => by have := (HFY2.out.2 g hg).2.1; omega⟩ : FewR ms)
      clear HFX2 HFY2
      have HCK := Lib.hid (fun W hL => rcheckR_any k st ga ls fu no ve a cap W HFX.out hL)
      have HEN := Lib.hid (fun W hL => pencode_any ⟨k, st, ga, ls, fu, no, ve⟩ a cap W HFX.out hga hno hL)
      have HER := Lib.hid (fun W hL => rencodeR_any k st ga ls fu no ve a cap W HFX.out hga hno hL)
      have HSR := Lib.hid (fun W hL hM => rsameR_any k st ga ls fu no ve k2 st2 ga2 ms fu2 no2 ve2 a cap b cb W hL hM HRA.out HRB.out)
      have HPC := Lib.hid (fun W hL => pcheck_any ⟨k, st, ga, ls, fu, no, ve⟩ a cap W HFX.out hL)
      have HPS := Lib.hid (fun W hL hM => psame_any ⟨k, st, ga, ls, fu, no, ve⟩ ⟨k2, st2, ga2, ms, fu2, no2, ve2⟩ a cap b cb W hL hM HFX.out)
      have HFR := Lib.hid (fun W => rform_any k (ga : Int) (no : Int) (ve : Int) st fu (.slice a ls.length cap) W)
      have HPF := Lib.hid (fun W => form_any k (ga : Int) (no : Int) (ve : Int) st fu (.slice a ls.length cap) W)
      obtain ⟨bx, ex, hex⟩ : ∃ bx ex, M.encR ⟨k, st, ga, ls, fu, no, ve⟩ = (bx, ex) := ⟨_, _, rfl⟩
      rw [hex] at HEN HER
      clear hex hga hno HFX HRA HRB
      generalize M.chkR ⟨k, st, ga, ls, fu, no, ve⟩ = cx at *
      generalize M.sameR ⟨k, st, ga, ls, fu, no, ve⟩ ⟨k2, st2, ga2, ms, fu2, no2, ve2⟩ = sx at *
      generalize (if fu then if (ve : Int) = 0 then 1 else 2 else 0 : Int) = fx at *
      dsimp only at *
      obtain ⟨c0, c1, c2, c3, c4, c5, c6⟩ := HX3.out
      go_wp2_with fail
      refine (HCK.out _ HL3.out).mono ?_
      rintro e w4 ⟨rfl, hb_⟩
      clear c0 c1 c2 c3 c4 c5 c6
      have HB4 := Lib.hid (HB3.out.trans (hb_.mono HB3.out.size))
      have HL4 := Lib.hid (HL3.out.kept hb_)
      have HM4 := Lib.hid (HM3.out.kept hb_)
      have HX4 := Lib.hid (HX3.out.from_ hb_)
      have HY4 := Lib.hid (HY3.out.from_ hb_)
      clear hb_ HB3 HL3 HM3 HX3 HY3
      obtain ⟨c0, c1, c2, c3, c4, c5, c6⟩ := HX4.out
      go_wp2_with fail
      refine (HFR.out _).mono ?_
      rintro e w5 ⟨rfl, hb_⟩
      clear c0 c1 c2 c3 c4 c5 c6
      have HB5 := Lib.hid (HB4.out.trans (hb_.mono HB4.out.size))
      have HL5 := Lib.hid (HL4.out.kept hb_)
      have HM5 := Lib.hid (HM4.out.kept hb_)
      have HX5 := Lib.hid (HX4.out.from_ hb_)
      have HY5 := Lib.hid (HY4.out.from_ hb_)
      clear hb_ HB4 HL4 HM4 HX4 HY4
      obtain ⟨c0, c1, c2, c3, c4, c5, c6⟩ := HX5.out
      go_wp2_with fail
      refine (HEN.out _ HL5.out).mono ?_
      rintro e w6 ⟨rfl, hb_⟩
      clear c0 c1 c2 c3 c4 c5 c6
      have HB6 := Lib.hid (HB5.out.trans (hb_.mono HB5.out.size))
      have HL6 := Lib.hid (HL5.out.kept hb_)
      have HM6 := Lib.hid (HM5.out.kept hb_)
      have HX6 := Lib.hid (HX5.out.from_ hb_)
      have HY6 := Lib.hid (HY5.out.from_ hb_)
      clear hb_ HB5 HL5 HM5 HX5 HY5
      obtain ⟨c0, c1, c2, c3, c4, c5, c6⟩ := HX6.out
      go_wp2_with fail
      refine (HER.out _ HL6.out).mono ?_
      rintro e w7 ⟨rfl, hb_⟩
      clear c0 c1 c2 c3 c4 c5 c6
      have HB7 := Lib.hid (HB6.out.trans (hb_.mono HB6.out.size))
      have HL7 := Lib.hid (HL6.out.kept hb_)
      have HM7 := Lib.hid (HM6.out.kept hb_)
      have HX7 := Lib.hid (HX6.out.from_ hb_)
      have HY7 := Lib.hid (HY6.out.from_ hb_)
      clear hb_ HB6 HL6 HM6 HX6 HY6
      obtain ⟨c0, c1, c2, c3, c4, c5, c6⟩ := HX7.out
      obtain ⟨d0, d1, d2, d3, d4, d5, d6⟩ := HY7.out
      go_wp2_with fail
      refine (HSR.out _ HL7.out HM7.out).mono ?_
      rintro e w8 ⟨rfl, hb_⟩
      clear c0 c1 c2 c3 c4 c5 c6
      clear d0 d1 d2 d3 d4 d5 d6
      have HB8 := Lib.hid (HB7.out.trans (hb_.mono HB7.out.size))
      have HL8 := Lib.hid (HL7.out.kept hb_)
      have HM8 := Lib.hid (HM7.out.kept hb_)
      have HX8 := Lib.hid (HX7.out.from_ hb_)
      have HY8 := Lib.hid (HY7.out.from_ hb_)
      clear hb_ HB7 HL7 HM7 HX7 HY7
      have HQX := Lib.hid (fun W (h : Below w8.heap.size w8 W) => HX8.out.from_ h)
      have HQY := Lib.hid (fun W (h : Below w8.heap.size w8 W) => HY8.out.from_ h)
      have HPC := Lib.hid (fun W (h : Below w8.heap.size w8 W) => HPC.out W (HL8.out.kept h))
      have HPS := Lib.hid (fun W (h : Below w8.heap.size w8 W) => HPS.out W (HL8.out.kept h) (HM8.out.kept h))
      clear HCK HEN HER HSR HFR HL8 HM8 HX8 HY8
      obtain ⟨c0, c1, c2, c3, c4, c5, c6⟩ := HQX.out w8 (Below.refl _ _)
      obtain ⟨d0, d1, d2, d3, d4, d5, d6⟩ := HQY.out w8 (Below.refl _ _)
      go_wp2_with fail
      refine (HPC.out _ (Below.refl _ _)).mono ?_
      rintro e w9 ⟨rfl, hb9⟩
      clear c0 c1 c2 c3 c4 c5 c6
      clear d0 d1 d2 d3 d4 d5 d6
      obtain ⟨c0, c1, c2, c3, c4, c5, c6⟩ := HQX.out w9 hb9
      obtain ⟨d0, d1, d2, d3, d4, d5, d6⟩ := HQY.out w9 hb9
      go_wp2_with fail
      refine (HPF.out _).mono ?_
      rintro e w10 ⟨rfl, hb10⟩
      have hB10 := hb9.trans (hb10.mono hb9.size)
      clear c0 c1 c2 c3 c4 c5 c6
      clear d0 d1 d2 d3 d4 d5 d6
      obtain ⟨c0, c1, c2, c3, c4, c5, c6⟩ := HQX.out w10 hB10
      obtain ⟨d0, d1, d2, d3, d4, d5, d6⟩ := HQY.out w10 hB10
      go_wp2_with fail
      refine (HPS.out _ hB10).mono ?_
      rintro e w11 ⟨rfl, hb11⟩
      go_wp2_with fail
      go_ret
      exact ⟨rfl, HB8.out.trans ((hB10.trans (hb11.mono hB10.size)).mono HB8.out.size)⟩
end Go.Proofs.YtcbggjdpjjdfmaaGreatDoor
namespace Go.Proofs.YtcbggjdpjjdfmaaGreatDoor
open Go Go.RowKit Go.ChangeShapes Go.WideShapes Go.ChangeAt

theorem g_et : Tryz.prog.globalNamed "errors.errorType" = some 0 := by kernel_rfl
theorem rt11 : (Tryz.prog.cutTypes.find? (·.1 == "internal/reflectlite.rtype")).map (·.2) = some 238 := by kernel_rfl
theorem oneRow11 : ((List.range Tryz.prog.types.size).filter fun t => Tryz.prog.rowNamed t [101, 114, 114, 111, 114]) = [60] := by kernel_rfl
abbrev L11 : List (String × DataW Unit) := [("unicode/utf8.acceptRanges", Rows.laid_unicode_utf8_acceptRanges), ("errors.errorType", Rows.laid_errors_errorType), ("unicode/utf8.first", Rows.laid_unicode_utf8_first)]
abbrev D11 : List (String × DataW Unit) := [("unicode/utf8.acceptRanges", Rows.laid_unicode_utf8_acceptRanges), ("unicode/utf8.first", Rows.laid_unicode_utf8_first)]
theorem hdl_of_laid {W : World} (h : laidMetH Tryz.prog L11 W) : Hdl W := by
  obtain ⟨name, u, ty, e1, e2, e3, e4, e5⟩ := (laidMetH_iff.1 h).2 ("errors.errorType", Rows.laid_errors_errorType) (List.mem_filter.2 ⟨by simp, rfl⟩)
  have en : name = [101, 114, 114, 111, 114] := (Option.some.inj e1).symm
  subst en
  obtain rfl := Option.some.inj (rt11.symm.trans e2)
  have hm : ty ∈ (List.range Tryz.prog.types.size).filter fun t => Tryz.prog.rowNamed t [101, 114, 114, 111, 114] := List.mem_filter.2 ⟨List.mem_range.2 e3, e4⟩
  rw [oneRow11] at hm
  obtain rfl := List.mem_singleton.1 hm
  have hh : typeHandle Tryz.prog 60 = .pointer (some ⟨4, 60, none⟩) := by kernel_rfl
  rw [hh] at e5
  simpa using World.var?_cell g_et e5 0

noncomputable def h11 (os : Os) : World :=
  let w0 := World.holding Tryz.prog os ⟨#[], #[], []⟩
  { w0 with heap := w0.heap.modify 0 fun
      | .cells _ t frozen => .cells #[.iface 238 (.agg #[.pointer (some ⟨4, 60, none⟩)])] t frozen
      | o => o }
noncomputable def w11 (os : Os) : World := (h11 os).layVars Tryz.prog D11
theorem w11_os (os : Os) : (w11 os).os = os := World.layVars_os _ _ _
theorem d11_eq : (L11.filter fun x => x.2.handleName?.isNone) = D11 := by rfl
theorem w11_data (os : Os) (args : Array Value) : laidMet Tryz.prog D11 ((w11 os).forCall (fun _ _ => 0) ⟨#[], args, []⟩).memory := by
  have hf : (h11 os).layFits Tryz.prog D11 [] = true := by kernel_rfl
  have hi : (h11 os).layIfaces Tryz.prog D11 (w11 os) = true := by kernel_rfl
  have e1 : (D11.filter fun x => (D11.map (·.1)).contains x.1) = D11 := List.filter_eq_self.2 fun x hx => List.contains_iff_mem.2 (List.mem_map.2 ⟨x, hx, rfl⟩)
  have e2 : (D11.filter fun x => !(D11.map (·.1)).contains x.1) = [] := List.filter_eq_nil_iff.2 fun x hx => by rw [List.contains_iff_mem.2 (List.mem_map.2 ⟨x, hx, rfl⟩)]; simp
  have h : laidMet Tryz.prog D11 (w11 os) := laidMet_layVars (w0 := h11 os) (D11.map (·.1)) [] (by rw [e1]; rfl) (by rw [e1]; exact hf) (by rw [e1]; exact hi) (by rw [e2]; exact LaidIn.none)
  exact h.of_heap (by simp [World.memory, World.forCall, Input.heap])
theorem w11_met (os : Os) (args : Array Value) : laidMetH Tryz.prog L11 ((w11 os).forCall (fun _ _ => 0) ⟨#[], args, []⟩).memory :=
  laidMetH_of_parts (by rw [d11_eq]; exact w11_data os args) (by kernel_rfl)
end Go.Proofs.YtcbggjdpjjdfmaaGreatDoor
namespace Go.Proofs.YtcbggjdpjjdfmaaGreatDoor
open Go Go.RowKit

theorem rc_cells : Tryz.prog.cellsOf 25 = 7 := by kernel_rfl
theorem lg_cells : Tryz.prog.cellsOf 39 = 3 := by kernel_rfl
theorem str_cells : Tryz.prog.cellsOf 9 = 1 := by kernel_rfl
theorem strs_cells : Tryz.prog.cellsOf 37 = 1 := by kernel_rfl
theorem lgs_cells : Tryz.prog.cellsOf 23 = 1 := by kernel_rfl
theorem i64_cells : Tryz.prog.cellsOf 3 = 1 := by kernel_rfl
theorem u64_cells : Tryz.prog.cellsOf 22 = 1 := by kernel_rfl
theorem yes_cells : Tryz.prog.cellsOf 4 = 1 := by kernel_rfl
theorem ad_add (b o i : Nat) : (⟨b, o, none⟩ : Addr).add i = ⟨b, o + i, none⟩ := by
  unfold Addr.add
  split
  · rename_i h; rw [h, Nat.add_zero]
  · rfl
section
variable {H : Type} {enc : TypeId × Value → H} {W : World} {sp : Nat → Bool} {hd : Bool}
set_option maxRecDepth 100000 in
/-- What a slice of texts leads to. -/
theorem open_strs (fuel : Nat) (u : Value) (x : DataW H × List MemPlace) (h : DataW.trod enc Tryz.prog W 0 sp hd fuel 37 [u] = some x) :
    ∃ ls a cap, u = .slice a ls.length cap ∧ Ts W W.heap.size ls (.slice a ls.length cap) := by
  rcases DataW.trod_slice Tryz.underlying37 h with ⟨hu, _⟩ | ⟨a, len, cap, elems, rest, n, hf, hu, hx, hb, hl, hm, hel, hei, _, _⟩
  · obtain rfl : u = .slice none 0 0 := by simpa using hu
    exact ⟨[], none, 0, rfl, .nil_ (by decide)⟩
  · obtain rfl : u = .slice (some a) len cap := by simpa using hu
    by_cases h0 : len = 0
    · subst h0
      exact ⟨[], some a, cap, rfl, .nil_ hm⟩
    · have each : ∀ i, i < len → ∃ q : List UInt8, W.cell? (a.add i) = some (.string ⟨q.toArray⟩) := by
        intro i hi
        have he := hei i hi
        rw [List.getElem?_eq_getElem (by omega)] at he
        obtain ⟨cs, h1, h2⟩ := Option.bind_eq_some_iff.1 he
        rw [str_cells, Nat.mul_one] at h1
        obtain ⟨s, e1, _, _⟩ := DataW.trod_string Tryz.underlying9 h2
        subst e1
        exact ⟨s.data.toList, Go.ChangeShapes.cell_of_cells?_one h1⟩
      obtain ⟨q, hq⟩ := Go.Deep.choose_lt each
      obtain ⟨b, o, spot⟩ := a
      have hspot : spot = none := by
        have := hq 0 (by omega)
        simpa [Addr.add] using World.cell?_spot this
      subst hspot
      have hbl : b < W.heap.size := World.block_lt_of_cell? W _ (hq 0 (by omega))
      have hlen : ((List.range len).map q).length = len := by simp
      refine ⟨(List.range len).map q, some ⟨b, o, none⟩, cap, by rw [hlen], ?_⟩
      refine Ts.row hbl (by rw [hlen]; exact hl) hm fun i s e => ?_
      have hi : i < len := by
        have := (List.getElem?_eq_some_iff.1 e).1
        simpa using this
      simp [hi] at e
      subst e
      have := hq i hi
      rwa [ad_add] at this
set_option maxRecDepth 100000 in
/-- What a slice of logs leads to. -/
theorem open_logs (fuel : Nat) (u : Value) (x : DataW H × List MemPlace) (h : DataW.trod enc Tryz.prog W 0 sp hd fuel 23 [u] = some x) :
    ∃ ls a cap, u = .slice a ls.length cap ∧ Ls W W.heap.size ls (.slice a ls.length cap) := by
  rcases DataW.trod_slice Tryz.underlying23 h with ⟨hu, _⟩ | ⟨a, len, cap, elems, rest, n, hf, hu, hx, hb, hl, hm, hel, hei, _, _⟩
  · obtain rfl : u = .slice none 0 0 := by simpa using hu
    exact ⟨[], none, 0, rfl, .nil_ (by decide)⟩
  · obtain rfl : u = .slice (some a) len cap := by simpa using hu
    by_cases h0 : len = 0
    · subst h0
      exact ⟨[], some a, cap, rfl, .nil_ hm⟩
    · have each : ∀ i, i < len → ∃ q : M.Lg × Value, W.cell? (a.add (i * 3)) = some (.string ⟨q.1.addr.toArray⟩) ∧ W.cell? (a.add (i * 3 + 1)) = some q.2 ∧ W.cell? (a.add (i * 3 + 2)) = some (.string ⟨q.1.data.toArray⟩) ∧ Ts W W.heap.size q.1.topics q.2 := by
        intro i hi
        have he := hei i hi
        rw [List.getElem?_eq_getElem (by omega)] at he
        obtain ⟨cs, h1, h2⟩ := Option.bind_eq_some_iff.1 he
        rw [lg_cells] at h1
        obtain ⟨_, hlen, hcell⟩ := World.cells?_some h1
        obtain ⟨ps, m, hfm, hxy, _, hpl, hfi⟩ := DataW.trod_struct Tryz.underlying39 h2
        match cs, hlen, ps, hpl with
        | [v0, v1, v2], _, [y0, y1, y2], _ =>
          have g0 := hfi 0 _ rfl
          have g1 := hfi 1 _ rfl
          have g2 := hfi 2 _ rfl
          simp [str_cells, strs_cells] at g0 g1 g2
          obtain ⟨s0, e0, _, _⟩ := DataW.trod_string Tryz.underlying9 g0
          obtain ⟨ts, ta, tc, rfl, hT⟩ := open_strs m v1 y1 g1
          obtain ⟨s2, e2, _, _⟩ := DataW.trod_string Tryz.underlying9 g2
          simp at e0 e2
          subst e0 e2
          refine ⟨(⟨s0.data.toList, ts, s2.data.toList⟩, _), ?_, ?_, ?_, hT⟩
          · have := hcell 0 (by omega)
            rw [Go.Deep.add_add, Nat.add_zero] at this
            exact this
          · have := hcell 1 (by omega)
            rw [Go.Deep.add_add] at this
            exact this
          · have := hcell 2 (by omega)
            rw [Go.Deep.add_add] at this
            exact this
      haveI : Inhabited (M.Lg × Value) := ⟨(⟨[], [], []⟩, undef)⟩
      obtain ⟨q, hq⟩ := Go.Deep.choose_lt each
      obtain ⟨b, o, spot⟩ := a
      have hspot : spot = none := by
        have := (hq 0 (by omega)).1
        simpa [Addr.add] using World.cell?_spot this
      subst hspot
      have hbl : b < W.heap.size := World.block_lt_of_cell? W _ ((hq 0 (by omega)).1)
      have hlen : ((List.range len).map fun i => (q i).1).length = len := by simp
      refine ⟨(List.range len).map fun i => (q i).1, some ⟨b, o, none⟩, cap, by rw [hlen], ?_⟩
      have key : ∀ (i : Nat) (g : M.Lg), ((List.range len).map fun i => (q i).1)[i]? = some g → i < len ∧ (q i).1 = g := by
        intro i g e
        have hi : i < len := by
          have := (List.getElem?_eq_some_iff.1 e).1
          simpa using this
        simp [hi] at e
        exact ⟨hi, e⟩
      refine Ls.row (fun i => (q i).2) hbl (by rw [hlen]; exact hl) hm ?_ ?_ ?_ ?_
      · intro i g e
        obtain ⟨hi, rfl⟩ := key i g e
        have := (hq i hi).1
        rwa [ad_add] at this
      · intro i g e
        obtain ⟨hi, rfl⟩ := key i g e
        have := (hq i hi).2.1
        rwa [ad_add] at this
      · intro i g e
        obtain ⟨hi, rfl⟩ := key i g e
        have := (hq i hi).2.2.1
        rwa [ad_add] at this
      · intro i g e
        obtain ⟨hi, rfl⟩ := key i g e
        exact (hq i hi).2.2.2
theorem u64_nat {n : Int} (h : (Lit.int .u64 n).wf = true) : ∃ m : Nat, n = m ∧ m < 18446744073709551616 := by
  simp [Lit.wf, IntKind.min, IntKind.max, IntKind.signed, IntKind.bits] at h
  exact ⟨n.toNat, by omega, by omega⟩
set_option maxRecDepth 100000 in
/-- A receipt that comes in. -/
theorem open_receipt {r : Reach} {b0 : Nat} {v : Value} {d : DataW H} {p : List MemPlace} (hv : Value.okWide Tryz.prog W r b0 25 v) (h : DataW.Trod enc Tryz.prog W 0 sp hd 25 v d p) :
    ∃ k st ga ls a cap fu no ve, v = .agg #[.int .i64 k, .bool st, .int .u64 (ga : Nat), .slice a ls.length cap, .bool fu, .int .u64 (no : Nat), .int .u64 (ve : Nat)] ∧ Ls W W.heap.size ls (.slice a ls.length cap) ∧ ga < 18446744073709551616 ∧ no < 18446744073709551616 ∧ ve < 18446744073709551616 := by
  obtain ⟨cs, rfl, hsz⟩ := Go.WideShapes.okWide_struct Tryz.underlying25 hv
  rw [rc_cells] at hsz
  obtain ⟨c0, c1, c2, c3, c4, c5, c6, rfl⟩ : ∃ c0 c1 c2 c3 c4 c5 c6, cs = #[c0, c1, c2, c3, c4, c5, c6] := by
    obtain ⟨l⟩ := cs
    match l, hsz with
    | [c0, c1, c2, c3, c4, c5, c6], _ => exact ⟨c0, c1, c2, c3, c4, c5, c6, rfl⟩
  obtain ⟨fuel, hf⟩ := h
  obtain ⟨ps, m, _, _, _, hpl, hfi⟩ := DataW.trod_struct Tryz.underlying25 hf
  match ps, hpl with
  | [y0, y1, y2, y3, y4, y5, y6], _ =>
    have g0 := hfi 0 _ rfl
    have g1 := hfi 1 _ rfl
    have g2 := hfi 2 _ rfl
    have g3 := hfi 3 _ rfl
    have g4 := hfi 4 _ rfl
    have g5 := hfi 5 _ rfl
    have g6 := hfi 6 _ rfl
    simp [i64_cells, u64_cells, yes_cells, lgs_cells, Value.cells] at g0 g1 g2 g3 g4 g5 g6
    obtain ⟨k, e0, _, _⟩ := DataW.trod_int Tryz.underlying3 g0
    obtain ⟨st, e1, _⟩ := DataW.trod_bool Tryz.underlying4 g1
    obtain ⟨ga, e2, _, w2⟩ := DataW.trod_int Tryz.underlying22 g2
    obtain ⟨ls, a, cap, rfl, hL⟩ := open_logs m c3 y3 g3
    obtain ⟨fu, e4, _⟩ := DataW.trod_bool Tryz.underlying4 g4
    obtain ⟨no, e5, _, w5⟩ := DataW.trod_int Tryz.underlying22 g5
    obtain ⟨ve, e6, _, w6⟩ := DataW.trod_int Tryz.underlying22 g6
    simp at e0 e1 e2 e4 e5 e6
    subst e0 e1 e2 e4 e5 e6
    obtain ⟨ga, rfl, q2⟩ := u64_nat w2
    obtain ⟨no, rfl, q5⟩ := u64_nat w5
    obtain ⟨ve, rfl, q6⟩ := u64_nat w6
    exact ⟨k, st, ga, ls, a, cap, fu, no, ve, rfl, hL, q2, q5, q6⟩
end
end Go.Proofs.YtcbggjdpjjdfmaaGreatDoor
namespace Go.Proofs.YtcbggjdpjjdfmaaGreatDoor
open Go.ChangeShapes Go.WideShapes Go.ChangeAt Go.RowKit
open Go.ChangeMaps (open_string shut_string)

namespace ReceiptEncodes
theorem own : ownKnob Tryz.prog.godebug = none := by kernel_rfl
theorem laidOut : laidOutB Tryz.prog = true := by kernel_rfl

set_option maxRecDepth 100000 in
theorem lifted (os : Os) (started : os.Started) (H : Type) (enc : TypeId × Value → H) :
    ReturnsInHanded {} Tryz.checked os 3 .any (fun w args => (Rows.receiptEncodesSpec.pre enc Tryz.prog Tryz.f3 Rows.receiptEncodesRow.domain false w args ∧ laidMetH Tryz.prog Rows.receiptEncodesRow.laid w) ∧ sizedMet enc Tryz.prog Tryz.f3 (OpenSpec.ofChange Rows.receiptEncodesSpec) false w args)
      (Rows.receiptEncodesSpec.post enc Tryz.prog Tryz.f3 false true false false) := by
  refine returnsInHanded_of_change_and (C := Tryz.checked) (X := fun w _ => laidMetH Tryz.prog Rows.receiptEncodesRow.laid w) (fun _ _ _ hh h => h.of_heap hh) own started (by kernel_rfl) Tryz.func3
    (ChangeSpec.witness_shaped (enc := enc) (C := Tryz.checked) (os := os) (X := fun w _ => laidMetH Tryz.prog Rows.receiptEncodesRow.laid w) false (w11 os) #[.agg #[.int .i64 0, .bool false, .int .u64 0, .slice none 0 0, .bool false, .int .u64 0, .int .u64 0], .agg #[.int .i64 0, .bool false, .int .u64 0, .slice none 0 0, .bool false, .int .u64 0, .int .u64 0]] 8 (w11_os os)
      (World.shaped_of_ZipB (by kernel_rfl) (by kernel_rfl)) (by kernel_rfl) (by kernel_rfl) (by kernel_rfl)
      (w11_met os _)) ?_
  intro W base args ds gs before hval0 hW _ _ hLaid _
  have hval : ∀ (j : Nat) t v, Tryz.f3.params[j]? = some t → args[j]? = some v → Value.okWide Tryz.prog W .any base t v := hval0
  have hW' := hW
  obtain ⟨p, q, hA0, hV, rfl, hfz, hnd⟩ := hW
  have hA : DataW.TrodAll enc Tryz.prog W 0 (fun _ => true) true Tryz.f3.params.toList args.toList ds p := hA0
  rw [Tryz.params3] at hA hval
  obtain ⟨v0, vs0, d0, ds0, p0, q0, hargs, rfl, rfl, h0, r0⟩ := trodAll_cons hA
  obtain ⟨v1, vs1, d1, ds1, p1, q1, rfl, rfl, rfl, h1, r1⟩ := trodAll_cons r0
  obtain ⟨rfl, rfl, rfl⟩ := trodAll_nil r1
  obtain rfl : args = #[v0, v1] := by cases args; simp_all
  obtain ⟨rfl, rfl⟩ := trodVars_none hV
  have k0 := h0
  have lt0 : ∀ x ∈ p0, x.block < W.heap.size := by obtain ⟨m, hm⟩ := k0; exact DataW.trod_lt m _ _ _ hm
  have k1 := h1
  have lt1 : ∀ x ∈ p1, x.block < W.heap.size := by obtain ⟨m, hm⟩ := k1; exact DataW.trod_lt m _ _ _ hm
  obtain ⟨kk0, st0, ga0, ls0, a0, cap0, fu0, no0, ve0, rfl, hL0, hg0, hn0, hw0⟩ := open_receipt (hval 0 25 v0 rfl rfl) h0
  obtain ⟨kk1, st1, ga1, ls1, a1, cap1, fu1, no1, ve1, rfl, hL1, hg1, hn1, hw1⟩ := open_receipt (hval 1 25 v1 rfl rfl) h1
  clear hA0 hval0
  refine (encodes11_law kk0 st0 ga0 ls0 a0 cap0 fu0 no0 ve0 kk1 st1 ga1 ls1 a1 cap1 fu1 no1 ve1 W (hdl_of_laid hLaid) hL0 hL1 hg0 hn0).mono fun e W' ⟨he, bel⟩ => ?_
  subst he
  exact ⟨_, rfl, _, _, _, [], _, [], hW', trodAll_mk1 (shut_bool Tryz.underlying4 _), (trodAll_cons_mk (Below.trod laidOut (by kernel_rfl) (of_decide_eq_true (by kernel_rfl)) k0 bel lt0) (trodAll_cons_mk (Below.trod laidOut (by kernel_rfl) (of_decide_eq_true (by kernel_rfl)) k1 bel lt1) trodAll_mk0)), rfl, bel.frame _, fun h => by cases h⟩

theorem over : Rows.receiptEncodesRow.holds Tryz.pinned (OpenSpec.ofChange Rows.receiptEncodesSpec) :=
  OpenClaim.holds_of_wide 3 Tryz.f3 rfl rfl rfl rfl rfl rfl rfl ⟨rfl, rfl, rfl, rfl, rfl⟩ rfl rfl rfl rfl rfl (by kernel_rfl) Tryz.func3 (by kernel_rfl)
    (of_decide_eq_true (by kernel_rfl)) (by unfold Func.isWrapper; first | (rw [if_pos (by decide +kernel)]; kernel_rfl) | (rw [if_neg (by decide +kernel)]; exact ⟨rfl, rfl⟩))
    (fun os started H enc _ => lifted os started H enc)
end ReceiptEncodes

theorem receiptEncodes_card : Rows.ReceiptEncodesCardSaid :=
  Claim7.holds_tied_plain_at .later [] [.data, .handle, .pinned] true Rows.receiptEncodesCard.stood.harness true
    ReceiptEncodes.over (fun _ h => by cases h) (by kernel_rfl) (fun _ h => by cases h) receiptEncodes_row_tie rfl ⟨rfl, rfl⟩ (by kernel_rfl) rfl
    (fun f fn hf hfn => by
      obtain rfl : f = 3 := Option.some.inj ((show Tryz.prog.funcNamed "rescript/rescriptlaw11.ReceiptEncodes" = some 3 by kernel_rfl).symm.trans hf) |>.symm
      obtain rfl : fn = Tryz.f3 := (Option.some.inj (Tryz.func3.symm.trans hfn)).symm
      exact ⟨by kernel_rfl, fun j t ht => by
        rw [Tryz.params3] at ht
        have hm : t ∈ [25, 25] := by simpa using Array.mem_of_getElem? ht
        have hall : ([25, 25].all fun u => !Tryz.prog.wantsStandIn u) = true := by kernel_rfl
        exact (show Tryz.prog.wantsStandIn t = false by simpa using List.all_eq_true.1 hall t hm)⟩)
    (by kernel_rfl)
#print axioms receiptEncodes_card
end Go.Proofs.YtcbggjdpjjdfmaaGreatDoor
