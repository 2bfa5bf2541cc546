/- Package receipt: a receipt of 4 parts is read. Package receipt: a receipt of 5 parts is read. Package receipt: Decode. Package receipt: Decode. -/
import Derived.Test.YtebjhbeaknokkaaGreatDoorH13
open List renaming getElem_toArray → zqA, getElem_cons_succ → zqB, getElem_cons_zero → zqC, setIfInBounds_toArray → zqD, set_cons_zero → zqE, set_cons_succ → zqF
namespace Go.Proofs.YtebjhbeaknokkaaGreatDoor
open Go Go.RowKit Go.Lib
attribute [local go_sem] Oper.semAt_some

set_option maxRecDepth 100000 in
set_option maxHeartbeats 8000000 in
theorem rreceipt_4 (b : Nat) (s : List UInt8) (w : World) (hS : RS w b 0) (hG : M.Gd (M.rdI (kdOf s).2 (s.drop (M.headR (kdOf s).1).length)).1) (hs : s.length ≤ 200000) (l0 : Bool) (d0 : List UInt8) (ys0 : List M.It) (l1 : Bool) (d1 : List UInt8) (ys1 : List M.It) (l2 : Bool) (d2 : List UInt8) (ys2 : List M.It) (l3 : Bool) (d3 : List UInt8) (ys3 : List M.It) (hn : M.rdL (M.rdI (kdOf s).2 (s.drop (M.headR (kdOf s).1).length)).2 3 (M.mostP (kdOf s).1) (M.rdI (kdOf s).2 (s.drop (M.headR (kdOf s).1).length)).1 = ([.mk l0 d0 ys0, .mk l1 d1 ys1, .mk l2 d2 ys2, .mk l3 d3 ys3], 0)) :
    Calls Tryz.prog 34 #[.pointer (some ⟨b, 0, none⟩), .string ⟨s.toArray⟩] w fun e w' => (∃ v, e = .returned (rcv (M.rdRc s).1 v) ∧ Ls w' w'.heap.size (M.rdRc s).1.logs v) ∧ RS w' b (M.rdRc s).2 ∧ But b w w' := by
  have EB : ∀ args w, (callFunc 63 args).run Tryz.prog w = .ok (.enter 63 args) w := enters_of Tryz.func63 (by kernel_rfl) rfl
  have EN : ∀ args w, (callFunc 65 args).run Tryz.prog w = .ok (.enter 65 args) w := enters_of Tryz.func65 (by kernel_rfl) rfl
  have EV : ∀ args w, (callFunc 68 args).run Tryz.prog w = .ok (.enter 68 args) w := enters_of Tryz.func68 (by kernel_rfl) rfl
  have mixed : Tryz.prog.follows .mixedOrders = true := by kernel_rfl
  obtain ⟨w0, hw0⟩ : ∃ w0, w.alloc (.cells #[.int .i64 0, .bool false, .int .u64 0, .slice none 0 0, .bool false, .int .u64 0, .int .u64 0] 25) = w0 := ⟨_, rfl⟩
  have hb0 : Below w.heap.size w w0 := by rw [← hw0]; exact (Below.refl _ _).alloc (Nat.le_refl _) _
  have hz0 : w0.heap.size = w.heap.size + 1 := by rw [← hw0]; simp
  obtain ⟨g4, hg4⟩ : ∃ g4, w.heap.size = g4 := ⟨_, rfl⟩
  have hrow0 : w0.heap[g4]? = some (.cells #[.int .i64 0, .bool false, .int .u64 0, .slice none 0 0, .bool false, .int .u64 0, .int .u64 0] 25 (0, 0)) := by rw [← hw0, ← hg4]; exact heap_alloc_new w _
  have hbl := hS.lt
  have hS0 := hS.kept hb0
  have HK := Lib.hid (fun part W (h : RS W b 0) => rd_kind b part s W h)
  have hkd := M.kdOf_ok s
  have hkl := M.kdOf_len s
  have hrc : M.rdRc s = if (M.rdL (M.rdI (kdOf s).2 (s.drop (M.headR (kdOf s).1).length)).2 3 (M.mostP (kdOf s).1) (M.rdI (kdOf s).2 (s.drop (M.headR (kdOf s).1).length)).1).2 ≠ 0 then (⟨0, false, 0, [], false, 0, 0⟩, (M.rdL (M.rdI (kdOf s).2 (s.drop (M.headR (kdOf s).1).length)).2 3 (M.mostP (kdOf s).1) (M.rdI (kdOf s).2 (s.drop (M.headR (kdOf s).1).length)).1).2) else M.rdRcP (kdOf s).1 (M.rdL (M.rdI (kdOf s).2 (s.drop (M.headR (kdOf s).1).length)).2 3 (M.mostP (kdOf s).1) (M.rdI (kdOf s).2 (s.drop (M.headR (kdOf s).1).length)).1).1 := rfl
  rw [hrc]
  clear hrc
  generalize kdOf s = h at *
  obtain ⟨k, ke⟩ := h
  dsimp only at *
  have HHD := Lib.hid (fun W => phead_any (k : Int) W hkd)
  obtain ⟨hd, hhd⟩ : ∃ hd, M.headR (k : Int) = hd := ⟨_, rfl⟩
  rw [hhd] at HHD hkl hG hn ⊢
  have hsl := slice_from s hd.length hkl
  have HI := Lib.hid (fun part W (h : RS W b ke) => rd_item b ke part (s.drop hd.length) (by rw [List.length_drop]; omega) W h)
  generalize M.rdI ke (s.drop hd.length) = own at *
  obtain ⟨⟨ol, od, oxs⟩, oe⟩ := own
  dsimp only at *
  have hmp : (if (k : Int) = 126 then (5 : Int) else 3) = ((M.mostP k : Nat) : Int) := by
    unfold M.mostP
    by_cases q : k = 126
    · subst q; rfl
    · rw [if_neg q, if_neg (by omega)]
      rfl
  have HM := Lib.hid (fun W => mostParts_any (k : Int) W)
  rw [hmp] at HM
  have HLI := Lib.hid (fun part W a cap (h : RS W b oe) (hL : Lay W W.heap.size oxs (.slice a oxs.length cap)) => rlist_any b oe part ol od oxs a cap 3 (M.mostP k) W h (hG.rd hL))
  have HGD := Lib.hid (M.rdL_gd (e0 := oe) (least := 3) (most := (M.mostP k : Nat)) hG)
  have HLN := Lib.hid (fun h => M.rdL_len (e0 := oe) (least := 3) (most := (M.mostP k : Nat)) (x := .mk ol od oxs) h)
  have hm5 : M.mostP k ≤ 5 := by unfold M.mostP; split <;> omega
  generalize M.mostP k = mp at *
  generalize M.rdL oe 3 (mp : Nat) (.mk ol od oxs) = r at *
  obtain ⟨p, n⟩ := r
  dsimp only at *
  cases hn
  clear hhd hmp hS hG
  have HW := Lib.hid hw0
  have HB0 := Lib.hid (But.of (b := b) hb0)
  have HS0 := Lib.hid hS0
  have HR0 := Lib.hid hrow0
  clear hw0 hb0 hS0 hrow0 hkd hkl
  rw [if_neg (by simp)]
  have hG0 : M.Gd (.mk l0 d0 ys0) := HGD.out _ (by simp)
  have hG1 : M.Gd (.mk l1 d1 ys1) := HGD.out _ (by simp)
  have hG2 : M.Gd (.mk l2 d2 ys2) := HGD.out _ (by simp)
  have hG3 : M.Gd (.mk l3 d3 ys3) := HGD.out _ (by simp)
  obtain ⟨st, hst⟩ : ∃ st, M.rdX false M.getBool 0 (.mk l0 d0 ys0) = st := ⟨_, rfl⟩
  obtain ⟨ga, hga⟩ : ∃ ga, M.rdX 0 M.getNumber st.2 (.mk l1 d1 ys1) = ga := ⟨_, rfl⟩
  obtain ⟨lr, hlr⟩ : ∃ lr, M.rdL ga.2 0 16 (.mk l2 d2 ys2) = lr := ⟨_, rfl⟩
  obtain ⟨lg, hlg⟩ : ∃ lg, M.rdEach M.rdLog lr.2 lr.1 = lg := ⟨_, rfl⟩
  obtain ⟨no, hno⟩ : ∃ no, M.rdX 0 M.getNumber lg.2 (.mk l3 d3 ys3) = no := ⟨_, rfl⟩
  have hP : M.rdRcP k [.mk l0 d0 ys0, .mk l1 d1 ys1, .mk l2 d2 ys2, .mk l3 d3 ys3] = (⟨(k : Nat), st.1, ga.1, lg.1, true, no.1, 0⟩, no.2) := by
    rw [← hno, ← hlg, ← hlr, ← hga, ← hst]
    rfl
  rw [hP]
  have HST := Lib.hid (fun part W a c (h : RS W b 0) (hL : Lay W W.heap.size ys0 (.slice a ys0.length c)) => rd_boolX b 0 part l0 d0 ys0 a c M.getBool 63 W h (hG0.rd hL) EB (fun W hW => get_bool l0 d0 ys0 a c W hW))
  rw [hst] at HST
  have HGA := Lib.hid (fun part W a c (h : RS W b st.2) (hL : Lay W W.heap.size ys1 (.slice a ys1.length c)) => rd_numX b st.2 part l1 d1 ys1 a c M.getNumber 65 W h (hG1.rd hL) EN (fun W hW => get_number l1 d1 ys1 a c W hW))
  rw [hga] at HGA
  have HLR := Lib.hid (fun part W a c (h : RS W b ga.2) (hL : Lay W W.heap.size ys2 (.slice a ys2.length c)) => rlist_any b ga.2 part l2 d2 ys2 a c 0 16 W h (hG2.rd hL))
  have hgl := M.rdL_gd (e0 := ga.2) (least := 0) (most := 16) hG2
  have hml := M.rdL_most (e0 := ga.2) (least := 0) (most := 16) (x := .mk l2 d2 ys2) (by omega)
  rw [hlr] at HLR hgl hml
  have HLG := Lib.hid (fun a c W (h : RS W b lr.2) (hL : Lay W W.heap.size lr.1 (.slice a lr.1.length c)) => rdlogs_any b lr.2 lr.1 a c W h hL hgl (by omega))
  rw [hlg] at HLG
  have HNO := Lib.hid (fun part W a c (h : RS W b lg.2) (hL : Lay W W.heap.size ys3 (.slice a ys3.length c)) => rd_numX b lg.2 part l3 d3 ys3 a c M.getNumber 65 W h (hG3.rd hL) EN (fun W hW => get_number l3 d3 ys3 a c W hW))
  rw [hno] at HNO
  clear hP hst hga hlr hlg hgl hml HGD HLN EB EN EV hno hG0 hG1 hG2 hG3
  go_enter Tryz.func34, Tryz.ntmps34
  go_wp2_with (first | rw [HW.out] | rw [hg4])
  refine (HK.out _ _ HS0.out).mono ?_
  rintro e w1 ⟨rfl, s1, q1⟩
  obtain ⟨g5, hg5⟩ : ∃ g5, w1.heap.size = g5 := ⟨_, rfl⟩
  obtain ⟨w2, hw2⟩ : ∃ w2, w1.alloc (.cells #[.int .i64 (k : Nat), .bool false, .int .u64 0, .slice none 0 0, .bool false, .int .u64 0, .int .u64 0] 25) = w2 := ⟨_, rfl⟩
  have hb12 : Below w1.heap.size w1 w2 := by rw [← hw2]; exact (Below.refl _ _).alloc (Nat.le_refl _) _
  have hrow5 : w2.heap[g5]? = some (.cells #[.int .i64 (k : Nat), .bool false, .int .u64 0, .slice none 0 0, .bool false, .int .u64 0, .int .u64 0] 25 (0, 0)) := by rw [← hw2, ← hg5]; exact heap_alloc_new w1 _
  have c50 : w2.cell? ⟨g5, 0, none⟩ = some (.int .i64 (k : Nat)) := by simp [World.cell?, hrow5]
  have h45 : g4 < g5 := by have := q1.size; omega
  have hz2 : w2.heap.size = g5 + 1 := by rw [← hw2, ← hg5]; simp
  have HW2 := Lib.hid hw2
  have HS2 := Lib.hid (s1.kept hb12)
  have HB2 := Lib.hid (HB0.out.trans (q1.trans (But.of hb12)))
  have HR4 := Lib.hid ((hb12.block g4 (by omega)).trans ((q1.block g4 (by omega) (by omega)).trans HR0.out))
  have HR5 := Lib.hid hrow5
  clear hw2 hb12 s1 q1 hrow5 HK HS0 HB0 HR0
  go_wp2_with (first | rw [HW2.out] | rw [hg5])
  refine (HHD.out _).mono ?_
  rintro e w3 ⟨rfl, hb23⟩
  have HS3 := Lib.hid (HS2.out.kept hb23)
  have HB3 := Lib.hid (HB2.out.trans (But.of hb23))
  have HR43 := Lib.hid ((hb23.block g4 (by omega)).trans HR4.out)
  have HR53 := Lib.hid ((hb23.block g5 (by omega)).trans HR5.out)
  have hz3 : g5 < w3.heap.size := by have := hb23.size; omega
  clear hb23 HS2 HB2 HR4 HR5 HHD c50
  go_wp2_with fail
  refine (HI.out _ _ HS3.out).mono ?_
  rintro e w4 ⟨⟨l', d', xs', ao, co, rfl, hx, LO⟩, s4, q4⟩
  cases hx
  obtain ⟨g6, hg6⟩ : ∃ g6, w4.heap.size = g6 := ⟨_, rfl⟩
  obtain ⟨w5, hw5⟩ : ∃ w5, w4.alloc (.cells #[.bool ol, .string ⟨od.toArray⟩, .slice ao oxs.length co] 44) = w5 := ⟨_, rfl⟩
  have hb45 : Below w4.heap.size w4 w5 := by rw [← hw5]; exact (Below.refl _ _).alloc (Nat.le_refl _) _
  have hbx := Box.new w4 ol od (.slice ao oxs.length co) 44
  rw [hw5, hg6] at hbx
  have hz5 : w5.heap.size = g6 + 1 := by rw [← hw5, ← hg6]; simp
  have hz4 := q4.size
  have HR45 := Lib.hid ((hb45.block g4 (by omega)).trans ((q4.block g4 (by omega) (by omega)).trans HR43.out))
  have hrow55 := (hb45.block g5 (by omega)).trans ((q4.block g5 (by omega) (by omega)).trans HR53.out)
  have HR55 := Lib.hid hrow55
  have HS5 := Lib.hid (s4.kept hb45)
  have HB5 := Lib.hid (HB3.out.trans (q4.trans (But.of hb45)))
  have HL5 := Lib.hid ((LO.from_ hb45).mono hb45.size)
  have HW5 := Lib.hid hw5
  have HBX := Lib.hid hbx
  have h56 : g5 < g6 := by omega
  clear hw5 hb45 s4 q4 LO hbx HI HS3 HB3 HR43 HR53 hrow55 hz4
  go_wp2_with (first | rw [HW5.out] | rw [hg6])
  have hdr : Below w5.heap.size w5 w5.drew := Below.drew (Below.refl _ _)
  have HSD := Lib.hid (HS5.out.kept hdr)
  have HLD := Lib.hid ((HL5.out.from_ hdr).mono hdr.size)
  have HBD := Lib.hid (HB5.out.trans (But.of hdr))
  have hbx := HBX.out
  have hzd : g6 < w5.drew.heap.size := by have := hdr.size; omega
  clear HS5 HL5 HB5 HBX hdr
  refine wp_region_held (S := fun Y => Box Y g6 ol od (.slice ao oxs.length co) ∧ Y.cell? ⟨g5, 0, none⟩ = some (.int .i64 (k : Nat))) mixed ?_
  have hS0 : Box w5.drew g6 ol od (.slice ao oxs.length co) ∧ w5.drew.cell? ⟨g5, 0, none⟩ = some (.int .i64 (k : Nat)) := ⟨⟨hbx.c0, hbx.c1, hbx.c2⟩, by have := HR55.out; show w5.cell? _ = _; simp [World.cell?, this]⟩
  rw [show Array.replicate (Array.size _) false = #[false, false, false, false, false, false, false] from rfl, show Array.size (α := Oper) _ = 7 from rfl]
  refine wpAnyH_take (i := 0) (v := .pointer (some ⟨b, 0, none⟩)) rfl (by kernel_rfl) (by kernel_rfl) (by kernel_rfl) (fun _ _ _ h => h) (Or.inl ⟨by rfl, ?_⟩) hS0 ?_
  · intro Y hY
    skip
    go_simp
  simp only [Act.put, zqA, zqC, zqD, zqE, zqF]
  refine wpAnyH_take (i := 1) (v := iv ol od (.slice ao oxs.length co)) rfl (by kernel_rfl) (by kernel_rfl) (by kernel_rfl) (fun _ _ _ h => h) (Or.inl ⟨by rfl, ?_⟩) hS0 ?_
  · intro Y hY
    obtain ⟨⟨z0, z1, z2⟩, z3⟩ := hY
    go_simp
  simp only [Act.put, zqA, zqB, zqC, zqD, zqE, zqF]
  refine wpAnyH_take (i := 2) (v := .pointer (some ⟨g5, 0, none⟩)) rfl (by kernel_rfl) (by kernel_rfl) (by kernel_rfl) (fun _ _ _ h => h) (Or.inl ⟨by rfl, ?_⟩) hS0 ?_
  · intro Y hY
    skip
    go_simp
  simp only [Act.put, zqA, zqB, zqC, zqD, zqE, zqF]
  refine wpAnyH_take (i := 3) (v := .int .i64 (k : Nat)) rfl (by kernel_rfl) (by kernel_rfl) (by kernel_rfl) (fun _ _ _ h => h) (Or.inl ⟨by rfl, ?_⟩) hS0 ?_
  · intro Y hY
    obtain ⟨⟨z0, z1, z2⟩, z3⟩ := hY
    go_simp
  simp only [Act.put, zqA, zqB, zqC, zqD, zqE, zqF]
  refine wpAnyH_ready (rs := [4]) (by kernel_rfl) (by simp) ?_
  refine AllReadyH.cons rfl (fun K hK => ?_) AllReadyH.nil
  go_simp
  refine (HM.out _).mono ?_
  rintro e w6 ⟨rfl, hb6⟩
  have HSD6 := Lib.hid (HSD.out.kept hb6)
  have HLD6 := Lib.hid ((HLD.out.from_ hb6).mono hb6.size)
  have HBD6 := Lib.hid (HBD.out.trans (But.of hb6))
  have hS6 : Box w6 g6 ol od (.slice ao oxs.length co) ∧ w6.cell? ⟨g5, 0, none⟩ = some (.int .i64 (k : Nat)) := ⟨⟨(hb6.cell (p := ⟨_, _, _⟩) hzd).trans hS0.1.c0, (hb6.cell (p := ⟨_, _, _⟩) hzd).trans hS0.1.c1, (hb6.cell (p := ⟨_, _, _⟩) hzd).trans hS0.1.c2⟩, (hb6.cell (p := ⟨g5, _, _⟩) (by show g5 < _; omega)).trans hS0.2⟩
  have hzd6 := Nat.lt_of_lt_of_le hzd hb6.size
  have HR46 := Lib.hid ((hb6.block g4 (by omega)).trans HR45.out)
  have HR56 := Lib.hid ((hb6.block g5 (by omega)).trans HR55.out)
  clear hb6 HSD HLD HBD HR45 HR55 hbx HM
  try dsimp only
  refine hK.out _ _ hS6 (fun _ => ?_)
  clear hK K
  simp only [List.setIfInBounds_toArray, List.set_cons_zero, List.set_cons_succ]
  refine wpAnyH_ready (rs := [5]) (by kernel_rfl) (by simp) ?_
  refine AllReadyH.cons rfl (fun K hK => ?_) AllReadyH.nil
  go_simp
  refine (HLI.out _ _ _ _ HSD6.out HLD6.out).mono ?_
  rintro e w7 ⟨⟨ap, cp, rfl, LP⟩, s7, q7⟩
  have hS7 : Box w7 g6 ol od (.slice ao oxs.length co) ∧ w7.cell? ⟨g5, 0, none⟩ = some (.int .i64 (k : Nat)) := ⟨⟨(q7.cell (p := ⟨_, _, _⟩) hzd6 (by show g6 ≠ b; omega)).trans hS6.1.c0, (q7.cell (p := ⟨_, _, _⟩) hzd6 (by show g6 ≠ b; omega)).trans hS6.1.c1, (q7.cell (p := ⟨_, _, _⟩) hzd6 (by show g6 ≠ b; omega)).trans hS6.1.c2⟩, (q7.cell (p := ⟨g5, _, _⟩) (by show g5 < _; omega) (by show g5 ≠ b; omega)).trans hS6.2⟩
  have hrow4 := (q7.block g4 (by omega) (by omega)).trans HR46.out
  have hrow5 := (q7.block g5 (by omega) (by omega)).trans HR56.out
  have HR47 := Lib.hid hrow4
  have HR57 := Lib.hid hrow5
  have HS7 := Lib.hid s7
  have HB7 := Lib.hid (HBD6.out.trans q7)
  have HL7 := Lib.hid LP
  have hz7 := Nat.lt_of_lt_of_le hzd6 q7.size
  clear HSD6 HLD6 HBD6 HR46 HR56 s7 q7 LP HLI hrow4 hrow5
  try dsimp only
  refine hK.out _ _ hS7 (fun _ => ?_)
  clear hK K
  simp only [List.setIfInBounds_toArray, List.set_cons_zero, List.set_cons_succ]
  refine wpAnyH_take (i := 6) (v := .slice ap 4 cp) rfl (by kernel_rfl) (by kernel_rfl) (by kernel_rfl) (fun _ _ _ h => h) (Or.inl ⟨by rfl, ?_⟩) hS7 ?_
  · intro Y hY
    skip
    go_simp
  simp only [Act.put, zqA, zqB, zqC, zqD, zqE, zqF]
  refine wpAnyH_done (by kernel_rfl) ?_ _
  clear hS0 hS6 hS7
  have s7z := HS7.out.zero
  have HG7 : Hid (Stg w b g4 g5 [.mk l0 d0 ys0, .mk l1 d1 ys1, .mk l2 d2 ys2, .mk l3 d3 ys3] (.slice ap 4 cp) w7 0 #[.int .i64 (k : Nat), .bool false, .int .u64 0, .slice none 0 0, .bool false, .int .u64 0, .int .u64 0]) := Lib.hid ⟨HS7.out, HB7.out, HL7.out, HR47.out, HR57.out⟩
  obtain ⟨a_, c_, e_, hcp, hmx⟩ := HL7.out.slice
  cases e_
  have hcp : 4 ≤ cp := hcp
  have hwg : w.heap.size ≤ g4 := by omega
  clear HS7 HB7 HL7 HR47 HR57 hzd hzd6 hz7
  obtain ⟨q_, o_, cp_, l_, d_, ys_, u_, hv_, hq_, hs_, x0, x1, x2, hu_⟩ := HG7.out.ly.at_ (k := 0) (by show 0 < 4; omega)
  cases hv_
  have hs_ : some (M.It.mk l0 d0 ys0) = some (M.It.mk l_ d_ ys_) := hs_
  cases hs_
  obtain ⟨ax, cx, rfl, _, _⟩ := hu_.slice
  replace x0 : w7.cell? ⟨q_, o_, none⟩ = _ := x0
  replace x1 : w7.cell? ⟨q_, o_ + 1, none⟩ = _ := x1
  replace x2 : w7.cell? ⟨q_, o_ + 2, none⟩ = _ := x2
  have HU := Lib.hid hu_
  clear hu_ hq_
  go_wp2_with fail
  refine (HST.out _ _ _ _ HG7.out.rs HU.out).mono ?_
  rintro e w8 ⟨rfl, s_, q_9⟩
  have HG8 := Lib.hid (HG7.out.next (by omega) (by omega) s_ q_9)
  clear s7z s_ q_9 x0 x1 x2 HU HST HG7
  have r5 := HG8.out.r5
  obtain ⟨⟨_, z0⟩, ⟨_, z1⟩, ⟨_, z2⟩, ⟨_, z3⟩, ⟨_, z4⟩, ⟨_, z5⟩, ⟨_, z6⟩, y⟩ := cells_seven r5
  have hw_ := setCell_eq_setRow w8 g5 1 _ _ (0, 0) (.bool st.1) r5
  change _ = w8.setRow g5 #[.int .i64 (k : Nat), .bool st.1, .int .u64 0, .slice none 0 0, .bool false, .int .u64 0, .int .u64 0] at hw_
  have hg_ := HG8.out.set (by omega) (by omega) (by omega) (NoTxt.rc rfl r5) #[.int .i64 (k : Nat), .bool st.1, .int .u64 0, .slice none 0 0, .bool false, .int .u64 0, .int .u64 0]
  obtain ⟨w9, hw9⟩ : ∃ w9, w8.setRow g5 #[.int .i64 (k : Nat), .bool st.1, .int .u64 0, .slice none 0 0, .bool false, .int .u64 0, .int .u64 0] = w9 := ⟨_, rfl⟩
  rw [hw9] at hw_ hg_
  have HW9 := Lib.hid hw_
  have HG9 := Lib.hid hg_
  clear r5 hw_ hg_ hw9 HG8 z0 z2 z3 z4 z5 z6
  obtain ⟨q_, o_, cp_, l_, d_, ys_, u_, hv_, hq_, hs_, x0, x1, x2, hu_⟩ := HG9.out.ly.at_ (k := 1) (by show 1 < 4; omega)
  cases hv_
  have hs_ : some (M.It.mk l1 d1 ys1) = some (M.It.mk l_ d_ ys_) := hs_
  cases hs_
  obtain ⟨ax, cx, rfl, _, _⟩ := hu_.slice
  replace x0 : w9.cell? ⟨q_, o_ + 3, none⟩ = _ := x0
  replace x1 : w9.cell? ⟨q_, o_ + 4, none⟩ = _ := x1
  replace x2 : w9.cell? ⟨q_, o_ + 5, none⟩ = _ := x2
  have HU := Lib.hid hu_
  clear hu_ hq_
  go_wp2_with (first | rw [HW9.out])
  refine (HGA.out _ _ _ _ HG9.out.rs HU.out).mono ?_
  rintro e w10 ⟨rfl, s_, q_9⟩
  have HG10 := Lib.hid (HG9.out.next (by omega) (by omega) s_ q_9)
  clear s_ q_9 x0 x1 x2 HU HGA HG9
  have r5 := HG10.out.r5
  obtain ⟨⟨_, z0⟩, ⟨_, z1⟩, ⟨_, z2⟩, ⟨_, z3⟩, ⟨_, z4⟩, ⟨_, z5⟩, ⟨_, z6⟩, y⟩ := cells_seven r5
  have hw_ := setCell_eq_setRow w10 g5 2 _ _ (0, 0) (.int .u64 (ga.1 : Nat)) r5
  change _ = w10.setRow g5 #[.int .i64 (k : Nat), .bool st.1, .int .u64 (ga.1 : Nat), .slice none 0 0, .bool false, .int .u64 0, .int .u64 0] at hw_
  have hg_ := HG10.out.set (by omega) (by omega) (by omega) (NoTxt.rc rfl r5) #[.int .i64 (k : Nat), .bool st.1, .int .u64 (ga.1 : Nat), .slice none 0 0, .bool false, .int .u64 0, .int .u64 0]
  obtain ⟨w11, hw11⟩ : ∃ w11, w10.setRow g5 #[.int .i64 (k : Nat), .bool st.1, .int .u64 (ga.1 : Nat), .slice none 0 0, .bool false, .int .u64 0, .int .u64 0] = w11 := ⟨_, rfl⟩
  rw [hw11] at hw_ hg_
  have HW11 := Lib.hid hw_
  have HG11 := Lib.hid hg_
  clear r5 hw_ hg_ hw11 HG10 z0 z1 z3 z4 z5 z6
  obtain ⟨q_, o_, cp_, l_, d_, ys_, u_, hv_, hq_, hs_, x0, x1, x2, hu_⟩ := HG11.out.ly.at_ (k := 2) (by show 2 < 4; omega)
  cases hv_
  have hs_ : some (M.It.mk l2 d2 ys2) = some (M.It.mk l_ d_ ys_) := hs_
  cases hs_
  obtain ⟨ax, cx, rfl, _, _⟩ := hu_.slice
  replace x0 : w11.cell? ⟨q_, o_ + 6, none⟩ = _ := x0
  replace x1 : w11.cell? ⟨q_, o_ + 7, none⟩ = _ := x1
  replace x2 : w11.cell? ⟨q_, o_ + 8, none⟩ = _ := x2
  have HU := Lib.hid hu_
  clear hu_ hq_
  go_wp2_with (first | rw [HW11.out])
  refine (HLR.out _ _ _ _ HG11.out.rs HU.out).mono ?_
  rintro e w12 ⟨⟨al, cl, rfl, L_⟩, s_, q_9⟩
  have HG12 := Lib.hid (HG11.out.next (by omega) (by omega) s_ q_9)
  have HL9 := Lib.hid L_
  clear s_ q_9 x0 x1 x2 HU HLR HG11 L_
  go_wp2_with fail
  refine (HLG.out _ _ _ HG12.out.rs HL9.out).mono ?_
  rintro e w13 ⟨⟨vl, rfl, LS_⟩, s_, q_9⟩
  have HG13 := Lib.hid (HG12.out.next (by omega) (by omega) s_ q_9)
  obtain ⟨avl, cvl, rfl, _, _⟩ := LS_.slice
  have HLS13 := Lib.hid LS_
  clear s_ q_9 HLG HG12 HL9 LS_
  have r5 := HG13.out.r5
  obtain ⟨⟨_, z0⟩, ⟨_, z1⟩, ⟨_, z2⟩, ⟨_, z3⟩, ⟨_, z4⟩, ⟨_, z5⟩, ⟨_, z6⟩, y⟩ := cells_seven r5
  have hw_ := setCell_eq_setRow w13 g5 3 _ _ (0, 0) (.slice avl lg.1.length cvl) r5
  change _ = w13.setRow g5 #[.int .i64 (k : Nat), .bool st.1, .int .u64 (ga.1 : Nat), .slice avl lg.1.length cvl, .bool false, .int .u64 0, .int .u64 0] at hw_
  have hg_ := HG13.out.set (by omega) (by omega) (by omega) (NoTxt.rc rfl r5) #[.int .i64 (k : Nat), .bool st.1, .int .u64 (ga.1 : Nat), .slice avl lg.1.length cvl, .bool false, .int .u64 0, .int .u64 0]
  have hl_ := HLS13.out.rowN (NoTxt.rc rfl r5) #[.int .i64 (k : Nat), .bool st.1, .int .u64 (ga.1 : Nat), .slice avl lg.1.length cvl, .bool false, .int .u64 0, .int .u64 0]
  obtain ⟨w14, hw14⟩ : ∃ w14, w13.setRow g5 #[.int .i64 (k : Nat), .bool st.1, .int .u64 (ga.1 : Nat), .slice avl lg.1.length cvl, .bool false, .int .u64 0, .int .u64 0] = w14 := ⟨_, rfl⟩
  rw [hw14] at hw_ hg_
  have HW14 := Lib.hid hw_
  have HG14 := Lib.hid hg_
  have hsz_ : w14.heap.size = w13.heap.size := by rw [← hw14, setRow_size]
  rw [hw14, ← hsz_] at hl_
  have HLS14 := Lib.hid hl_
  clear r5 hw_ hg_ hw14 HG13 z0 z1 z2 z4 z5 z6 hl_ hsz_ HLS13
  have r5 := HG14.out.r5
  obtain ⟨⟨_, z0⟩, ⟨_, z1⟩, ⟨_, z2⟩, ⟨_, z3⟩, ⟨_, z4⟩, ⟨_, z5⟩, ⟨_, z6⟩, y⟩ := cells_seven r5
  have hw_ := setCell_eq_setRow w14 g5 4 _ _ (0, 0) (.bool true) r5
  change _ = w14.setRow g5 #[.int .i64 (k : Nat), .bool st.1, .int .u64 (ga.1 : Nat), .slice avl lg.1.length cvl, .bool true, .int .u64 0, .int .u64 0] at hw_
  have hg_ := HG14.out.set (by omega) (by omega) (by omega) (NoTxt.rc rfl r5) #[.int .i64 (k : Nat), .bool st.1, .int .u64 (ga.1 : Nat), .slice avl lg.1.length cvl, .bool true, .int .u64 0, .int .u64 0]
  have hl_ := HLS14.out.rowN (NoTxt.rc rfl r5) #[.int .i64 (k : Nat), .bool st.1, .int .u64 (ga.1 : Nat), .slice avl lg.1.length cvl, .bool true, .int .u64 0, .int .u64 0]
  obtain ⟨w15, hw15⟩ : ∃ w15, w14.setRow g5 #[.int .i64 (k : Nat), .bool st.1, .int .u64 (ga.1 : Nat), .slice avl lg.1.length cvl, .bool true, .int .u64 0, .int .u64 0] = w15 := ⟨_, rfl⟩
  rw [hw15] at hw_ hg_
  have HW15 := Lib.hid hw_
  have HG15 := Lib.hid hg_
  have hsz_ : w15.heap.size = w14.heap.size := by rw [← hw15, setRow_size]
  rw [hw15, ← hsz_] at hl_
  have HLS15 := Lib.hid hl_
  clear r5 hw_ hg_ hw15 HG14 z0 z1 z2 z3 z5 z6 hl_ hsz_ HLS14
  obtain ⟨q_, o_, cp_, l_, d_, ys_, u_, hv_, hq_, hs_, x0, x1, x2, hu_⟩ := HG15.out.ly.at_ (k := 3) (by show 3 < 4; omega)
  cases hv_
  have hs_ : some (M.It.mk l3 d3 ys3) = some (M.It.mk l_ d_ ys_) := hs_
  cases hs_
  obtain ⟨ax, cx, rfl, _, _⟩ := hu_.slice
  replace x0 : w15.cell? ⟨q_, o_ + 9, none⟩ = _ := x0
  replace x1 : w15.cell? ⟨q_, o_ + 10, none⟩ = _ := x1
  replace x2 : w15.cell? ⟨q_, o_ + 11, none⟩ = _ := x2
  have HU := Lib.hid hu_
  clear hu_ hq_
  go_wp2_with (first | rw [HW15.out] | rw [HW14.out])
  refine (HNO.out _ _ _ _ HG15.out.rs HU.out).mono ?_
  rintro e w16 ⟨rfl, s_, q_9⟩
  have HG16 := Lib.hid (HG15.out.next (by omega) (by omega) s_ q_9)
  have HLS16 := Lib.hid (HLS15.out.butk HG15.out.rs q_9)
  clear s_ q_9 x0 x1 x2 HU HNO HG15 HLS15
  have r5 := HG16.out.r5
  obtain ⟨⟨_, z0⟩, ⟨_, z1⟩, ⟨_, z2⟩, ⟨_, z3⟩, ⟨_, z4⟩, ⟨_, z5⟩, ⟨_, z6⟩, y⟩ := cells_seven r5
  have hw_ := setCell_eq_setRow w16 g5 5 _ _ (0, 0) (.int .u64 (no.1 : Nat)) r5
  change _ = w16.setRow g5 #[.int .i64 (k : Nat), .bool st.1, .int .u64 (ga.1 : Nat), .slice avl lg.1.length cvl, .bool true, .int .u64 (no.1 : Nat), .int .u64 0] at hw_
  have hg_ := HG16.out.set (by omega) (by omega) (by omega) (NoTxt.rc rfl r5) #[.int .i64 (k : Nat), .bool st.1, .int .u64 (ga.1 : Nat), .slice avl lg.1.length cvl, .bool true, .int .u64 (no.1 : Nat), .int .u64 0]
  have hl_ := HLS16.out.rowN (NoTxt.rc rfl r5) #[.int .i64 (k : Nat), .bool st.1, .int .u64 (ga.1 : Nat), .slice avl lg.1.length cvl, .bool true, .int .u64 (no.1 : Nat), .int .u64 0]
  obtain ⟨w17, hw17⟩ : ∃ w17, w16.setRow g5 #[.int .i64 (k : Nat), .bool st.1, .int .u64 (ga.1 : Nat), .slice avl lg.1.length cvl, .bool true, .int .u64 (no.1 : Nat), .int .u64 0] = w17 := ⟨_, rfl⟩
  rw [hw17] at hw_ hg_
  have HW17 := Lib.hid hw_
  have HG17 := Lib.hid hg_
  have hsz_ : w17.heap.size = w16.heap.size := by rw [← hw17, setRow_size]
  rw [hw17, ← hsz_] at hl_
  have HLS17 := Lib.hid hl_
  clear r5 hw_ hg_ hw17 HG16 z0 z1 z2 z3 z4 z6 hl_ hsz_ HLS16
  have r5 := HG17.out.r5
  have c0 : w17.cell? ⟨g5, 0, none⟩ = some (.int .i64 (k : Nat)) := by simp [World.cell?, r5]
  have c1 : w17.cell? ⟨g5, 1, none⟩ = some (.bool st.1) := by simp [World.cell?, r5]
  have c2 : w17.cell? ⟨g5, 2, none⟩ = some (.int .u64 (ga.1 : Nat)) := by simp [World.cell?, r5]
  have c3 : w17.cell? ⟨g5, 3, none⟩ = some (.slice avl lg.1.length cvl) := by simp [World.cell?, r5]
  have c4 : w17.cell? ⟨g5, 4, none⟩ = some (.bool true) := by simp [World.cell?, r5]
  have c5 : w17.cell? ⟨g5, 5, none⟩ = some (.int .u64 (no.1 : Nat)) := by simp [World.cell?, r5]
  have c6 : w17.cell? ⟨g5, 6, none⟩ = some (.int .u64 0) := by simp [World.cell?, r5]
  obtain ⟨⟨_, z0⟩, ⟨_, z1⟩, ⟨_, z2⟩, ⟨_, z3⟩, ⟨_, z4⟩, ⟨_, z5⟩, ⟨_, z6⟩, y4⟩ := cells_seven HG17.out.r4
  clear r5
  have hlt4 := HG17.out.lt4
  have hbg4 : b ≠ g4 := by omega
  go_wp2_with (first | rw [HW17.out])
  all_goals
    rw [set_seven HG17.out.r4]
    refine rc_row rfl w17 _ #[.int .i64 (k : Nat), .bool st.1, .int .u64 (ga.1 : Nat), .slice avl lg.1.length cvl, .bool true, .int .u64 (no.1 : Nat), .int .u64 0] _ rfl g4 HG17.out.r4 _ ?_ ?_
    · rfl
    · refine ⟨⟨_, rfl, ?_⟩, HG17.out.rs.row hbg4 _, HG17.out.bt.row hwg _⟩
      rw [setRow_size]
      exact HLS17.out.rowN (NoTxt.rc rfl HG17.out.r4) _
end Go.Proofs.YtebjhbeaknokkaaGreatDoor
namespace Go.Proofs.YtebjhbeaknokkaaGreatDoor
open Go Go.RowKit Go.Lib
attribute [local go_sem] Oper.semAt_some

set_option maxRecDepth 100000 in
set_option maxHeartbeats 8000000 in
theorem rreceipt_5 (b : Nat) (s : List UInt8) (w : World) (hS : RS w b 0) (hG : M.Gd (M.rdI (kdOf s).2 (s.drop (M.headR (kdOf s).1).length)).1) (hs : s.length ≤ 200000) (l0 : Bool) (d0 : List UInt8) (ys0 : List M.It) (l1 : Bool) (d1 : List UInt8) (ys1 : List M.It) (l2 : Bool) (d2 : List UInt8) (ys2 : List M.It) (l3 : Bool) (d3 : List UInt8) (ys3 : List M.It) (l4 : Bool) (d4 : List UInt8) (ys4 : List M.It) (hn : M.rdL (M.rdI (kdOf s).2 (s.drop (M.headR (kdOf s).1).length)).2 3 (M.mostP (kdOf s).1) (M.rdI (kdOf s).2 (s.drop (M.headR (kdOf s).1).length)).1 = ([.mk l0 d0 ys0, .mk l1 d1 ys1, .mk l2 d2 ys2, .mk l3 d3 ys3, .mk l4 d4 ys4], 0)) :
    Calls Tryz.prog 34 #[.pointer (some ⟨b, 0, none⟩), .string ⟨s.toArray⟩] w fun e w' => (∃ v, e = .returned (rcv (M.rdRc s).1 v) ∧ Ls w' w'.heap.size (M.rdRc s).1.logs v) ∧ RS w' b (M.rdRc s).2 ∧ But b w w' := by
  have EB : ∀ args w, (callFunc 63 args).run Tryz.prog w = .ok (.enter 63 args) w := enters_of Tryz.func63 (by kernel_rfl) rfl
  have EN : ∀ args w, (callFunc 65 args).run Tryz.prog w = .ok (.enter 65 args) w := enters_of Tryz.func65 (by kernel_rfl) rfl
  have EV : ∀ args w, (callFunc 68 args).run Tryz.prog w = .ok (.enter 68 args) w := enters_of Tryz.func68 (by kernel_rfl) rfl
  have mixed : Tryz.prog.follows .mixedOrders = true := by kernel_rfl
  obtain ⟨w0, hw0⟩ : ∃ w0, w.alloc (.cells #[.int .i64 0, .bool false, .int .u64 0, .slice none 0 0, .bool false, .int .u64 0, .int .u64 0] 25) = w0 := ⟨_, rfl⟩
  have hb0 : Below w.heap.size w w0 := by rw [← hw0]; exact (Below.refl _ _).alloc (Nat.le_refl _) _
  have hz0 : w0.heap.size = w.heap.size + 1 := by rw [← hw0]; simp
  obtain ⟨g4, hg4⟩ : ∃ g4, w.heap.size = g4 := ⟨_, rfl⟩
  have hrow0 : w0.heap[g4]? = some (.cells #[.int .i64 0, .bool false, .int .u64 0, .slice none 0 0, .bool false, .int .u64 0, .int .u64 0] 25 (0, 0)) := by rw [← hw0, ← hg4]; exact heap_alloc_new w _
  have hbl := hS.lt
  have hS0 := hS.kept hb0
  have HK := Lib.hid (fun part W (h : RS W b 0) => rd_kind b part s W h)
  have hkd := M.kdOf_ok s
  have hkl := M.kdOf_len s
  have hrc : M.rdRc s = if (M.rdL (M.rdI (kdOf s).2 (s.drop (M.headR (kdOf s).1).length)).2 3 (M.mostP (kdOf s).1) (M.rdI (kdOf s).2 (s.drop (M.headR (kdOf s).1).length)).1).2 ≠ 0 then (⟨0, false, 0, [], false, 0, 0⟩, (M.rdL (M.rdI (kdOf s).2 (s.drop (M.headR (kdOf s).1).length)).2 3 (M.mostP (kdOf s).1) (M.rdI (kdOf s).2 (s.drop (M.headR (kdOf s).1).length)).1).2) else M.rdRcP (kdOf s).1 (M.rdL (M.rdI (kdOf s).2 (s.drop (M.headR (kdOf s).1).length)).2 3 (M.mostP (kdOf s).1) (M.rdI (kdOf s).2 (s.drop (M.headR (kdOf s).1).length)).1).1 := rfl
  rw [hrc]
  clear hrc
  generalize kdOf s = h at *
  obtain ⟨k, ke⟩ := h
  dsimp only at *
  have HHD := Lib.hid (fun W => phead_any (k : Int) W hkd)
  obtain ⟨hd, hhd⟩ : ∃ hd, M.headR (k : Int) = hd := ⟨_, rfl⟩
  rw [hhd] at HHD hkl hG hn ⊢
  have hsl := slice_from s hd.length hkl
  have HI := Lib.hid (fun part W (h : RS W b ke) => rd_item b ke part (s.drop hd.length) (by rw [List.length_drop]; omega) W h)
  generalize M.rdI ke (s.drop hd.length) = own at *
  obtain ⟨⟨ol, od, oxs⟩, oe⟩ := own
  dsimp only at *
  have hmp : (if (k : Int) = 126 then (5 : Int) else 3) = ((M.mostP k : Nat) : Int) := by
    unfold M.mostP
    by_cases q : k = 126
    · subst q; rfl
    · rw [if_neg q, if_neg (by omega)]
      rfl
  have HM := Lib.hid (fun W => mostParts_any (k : Int) W)
  rw [hmp] at HM
  have HLI := Lib.hid (fun part W a cap (h : RS W b oe) (hL : Lay W W.heap.size oxs (.slice a oxs.length cap)) => rlist_any b oe part ol od oxs a cap 3 (M.mostP k) W h (hG.rd hL))
  have HGD := Lib.hid (M.rdL_gd (e0 := oe) (least := 3) (most := (M.mostP k : Nat)) hG)
  have HLN := Lib.hid (fun h => M.rdL_len (e0 := oe) (least := 3) (most := (M.mostP k : Nat)) (x := .mk ol od oxs) h)
  have hm5 : M.mostP k ≤ 5 := by unfold M.mostP; split <;> omega
  generalize M.mostP k = mp at *
  generalize M.rdL oe 3 (mp : Nat) (.mk ol od oxs) = r at *
  obtain ⟨p, n⟩ := r
  dsimp only at *
  cases hn
  clear hhd hmp hS hG
  have HW := Lib.hid hw0
  have HB0 := Lib.hid (But.of (b := b) hb0)
  have HS0 := Lib.hid hS0
  have HR0 := Lib.hid hrow0
  clear hw0 hb0 hS0 hrow0 hkd hkl
  rw [if_neg (by simp)]
  have hG0 : M.Gd (.mk l0 d0 ys0) := HGD.out _ (by simp)
  have hG1 : M.Gd (.mk l1 d1 ys1) := HGD.out _ (by simp)
  have hG2 : M.Gd (.mk l2 d2 ys2) := HGD.out _ (by simp)
  have hG3 : M.Gd (.mk l3 d3 ys3) := HGD.out _ (by simp)
  have hG4 : M.Gd (.mk l4 d4 ys4) := HGD.out _ (by simp)
  obtain ⟨st, hst⟩ : ∃ st, M.rdX false M.getBool 0 (.mk l0 d0 ys0) = st := ⟨_, rfl⟩
  obtain ⟨ga, hga⟩ : ∃ ga, M.rdX 0 M.getNumber st.2 (.mk l1 d1 ys1) = ga := ⟨_, rfl⟩
  obtain ⟨lr, hlr⟩ : ∃ lr, M.rdL ga.2 0 16 (.mk l2 d2 ys2) = lr := ⟨_, rfl⟩
  obtain ⟨lg, hlg⟩ : ∃ lg, M.rdEach M.rdLog lr.2 lr.1 = lg := ⟨_, rfl⟩
  obtain ⟨no, hno⟩ : ∃ no, M.rdX 0 M.getNumber lg.2 (.mk l3 d3 ys3) = no := ⟨_, rfl⟩
  obtain ⟨ve, hve⟩ : ∃ ve, M.rdX 0 rVersion no.2 (.mk l4 d4 ys4) = ve := ⟨_, rfl⟩
  have hP : M.rdRcP k [.mk l0 d0 ys0, .mk l1 d1 ys1, .mk l2 d2 ys2, .mk l3 d3 ys3, .mk l4 d4 ys4] = (⟨(k : Nat), st.1, ga.1, lg.1, true, no.1, ve.1⟩, ve.2) := by
    rw [← hve, ← hno, ← hlg, ← hlr, ← hga, ← hst]
    rfl
  rw [hP]
  have HST := Lib.hid (fun part W a c (h : RS W b 0) (hL : Lay W W.heap.size ys0 (.slice a ys0.length c)) => rd_boolX b 0 part l0 d0 ys0 a c M.getBool 63 W h (hG0.rd hL) EB (fun W hW => get_bool l0 d0 ys0 a c W hW))
  rw [hst] at HST
  have HGA := Lib.hid (fun part W a c (h : RS W b st.2) (hL : Lay W W.heap.size ys1 (.slice a ys1.length c)) => rd_numX b st.2 part l1 d1 ys1 a c M.getNumber 65 W h (hG1.rd hL) EN (fun W hW => get_number l1 d1 ys1 a c W hW))
  rw [hga] at HGA
  have HLR := Lib.hid (fun part W a c (h : RS W b ga.2) (hL : Lay W W.heap.size ys2 (.slice a ys2.length c)) => rlist_any b ga.2 part l2 d2 ys2 a c 0 16 W h (hG2.rd hL))
  have hgl := M.rdL_gd (e0 := ga.2) (least := 0) (most := 16) hG2
  have hml := M.rdL_most (e0 := ga.2) (least := 0) (most := 16) (x := .mk l2 d2 ys2) (by omega)
  rw [hlr] at HLR hgl hml
  have HLG := Lib.hid (fun a c W (h : RS W b lr.2) (hL : Lay W W.heap.size lr.1 (.slice a lr.1.length c)) => rdlogs_any b lr.2 lr.1 a c W h hL hgl (by omega))
  rw [hlg] at HLG
  have HNO := Lib.hid (fun part W a c (h : RS W b lg.2) (hL : Lay W W.heap.size ys3 (.slice a ys3.length c)) => rd_numX b lg.2 part l3 d3 ys3 a c M.getNumber 65 W h (hG3.rd hL) EN (fun W hW => get_number l3 d3 ys3 a c W hW))
  rw [hno] at HNO
  have HVE := Lib.hid (fun part W a c (h : RS W b no.2) (hL : Lay W W.heap.size ys4 (.slice a ys4.length c)) => rd_numX b no.2 part l4 d4 ys4 a c rVersion 68 W h (hG4.rd hL) EV (fun W hW => rversion_any l4 d4 ys4 a c W hW))
  rw [hve] at HVE
  clear hP hst hga hlr hlg hgl hml HGD HLN EB EN EV hno hve hG0 hG1 hG2 hG3 hG4
  go_enter Tryz.func34, Tryz.ntmps34
  go_wp2_with (first | rw [HW.out] | rw [hg4])
  refine (HK.out _ _ HS0.out).mono ?_
  rintro e w1 ⟨rfl, s1, q1⟩
  obtain ⟨g5, hg5⟩ : ∃ g5, w1.heap.size = g5 := ⟨_, rfl⟩
  obtain ⟨w2, hw2⟩ : ∃ w2, w1.alloc (.cells #[.int .i64 (k : Nat), .bool false, .int .u64 0, .slice none 0 0, .bool false, .int .u64 0, .int .u64 0] 25) = w2 := ⟨_, rfl⟩
  have hb12 : Below w1.heap.size w1 w2 := by rw [← hw2]; exact (Below.refl _ _).alloc (Nat.le_refl _) _
  have hrow5 : w2.heap[g5]? = some (.cells #[.int .i64 (k : Nat), .bool false, .int .u64 0, .slice none 0 0, .bool false, .int .u64 0, .int .u64 0] 25 (0, 0)) := by rw [← hw2, ← hg5]; exact heap_alloc_new w1 _
  have c50 : w2.cell? ⟨g5, 0, none⟩ = some (.int .i64 (k : Nat)) := by simp [World.cell?, hrow5]
  have h45 : g4 < g5 := by have := q1.size; omega
  have hz2 : w2.heap.size = g5 + 1 := by rw [← hw2, ← hg5]; simp
  have HW2 := Lib.hid hw2
  have HS2 := Lib.hid (s1.kept hb12)
  have HB2 := Lib.hid (HB0.out.trans (q1.trans (But.of hb12)))
  have HR4 := Lib.hid ((hb12.block g4 (by omega)).trans ((q1.block g4 (by omega) (by omega)).trans HR0.out))
  have HR5 := Lib.hid hrow5
  clear hw2 hb12 s1 q1 hrow5 HK HS0 HB0 HR0
  go_wp2_with (first | rw [HW2.out] | rw [hg5])
  refine (HHD.out _).mono ?_
  rintro e w3 ⟨rfl, hb23⟩
  have HS3 := Lib.hid (HS2.out.kept hb23)
  have HB3 := Lib.hid (HB2.out.trans (But.of hb23))
  have HR43 := Lib.hid ((hb23.block g4 (by omega)).trans HR4.out)
  have HR53 := Lib.hid ((hb23.block g5 (by omega)).trans HR5.out)
  have hz3 : g5 < w3.heap.size := by have := hb23.size; omega
  clear hb23 HS2 HB2 HR4 HR5 HHD c50
  go_wp2_with fail
  refine (HI.out _ _ HS3.out).mono ?_
  rintro e w4 ⟨⟨l', d', xs', ao, co, rfl, hx, LO⟩, s4, q4⟩
  cases hx
  obtain ⟨g6, hg6⟩ : ∃ g6, w4.heap.size = g6 := ⟨_, rfl⟩
  obtain ⟨w5, hw5⟩ : ∃ w5, w4.alloc (.cells #[.bool ol, .string ⟨od.toArray⟩, .slice ao oxs.length co] 44) = w5 := ⟨_, rfl⟩
  have hb45 : Below w4.heap.size w4 w5 := by rw [← hw5]; exact (Below.refl _ _).alloc (Nat.le_refl _) _
  have hbx := Box.new w4 ol od (.slice ao oxs.length co) 44
  rw [hw5, hg6] at hbx
  have hz5 : w5.heap.size = g6 + 1 := by rw [← hw5, ← hg6]; simp
  have hz4 := q4.size
  have HR45 := Lib.hid ((hb45.block g4 (by omega)).trans ((q4.block g4 (by omega) (by omega)).trans HR43.out))
  have hrow55 := (hb45.block g5 (by omega)).trans ((q4.block g5 (by omega) (by omega)).trans HR53.out)
  have HR55 := Lib.hid hrow55
  have HS5 := Lib.hid (s4.kept hb45)
  have HB5 := Lib.hid (HB3.out.trans (q4.trans (But.of hb45)))
  have HL5 := Lib.hid ((LO.from_ hb45).mono hb45.size)
  have HW5 := Lib.hid hw5
  have HBX := Lib.hid hbx
  have h56 : g5 < g6 := by omega
  clear hw5 hb45 s4 q4 LO hbx HI HS3 HB3 HR43 HR53 hrow55 hz4
  go_wp2_with (first | rw [HW5.out] | rw [hg6])
  have hdr : Below w5.heap.size w5 w5.drew := Below.drew (Below.refl _ _)
  have HSD := Lib.hid (HS5.out.kept hdr)
  have HLD := Lib.hid ((HL5.out.from_ hdr).mono hdr.size)
  have HBD := Lib.hid (HB5.out.trans (But.of hdr))
  have hbx := HBX.out
  have hzd : g6 < w5.drew.heap.size := by have := hdr.size; omega
  clear HS5 HL5 HB5 HBX hdr
  refine wp_region_held (S := fun Y => Box Y g6 ol od (.slice ao oxs.length co) ∧ Y.cell? ⟨g5, 0, none⟩ = some (.int .i64 (k : Nat))) mixed ?_
  have hS0 : Box w5.drew g6 ol od (.slice ao oxs.length co) ∧ w5.drew.cell? ⟨g5, 0, none⟩ = some (.int .i64 (k : Nat)) := ⟨⟨hbx.c0, hbx.c1, hbx.c2⟩, by have := HR55.out; show w5.cell? _ = _; simp [World.cell?, this]⟩
  rw [show Array.replicate (Array.size _) false = #[false, false, false, false, false, false, false] from rfl, show Array.size (α := Oper) _ = 7 from rfl]
  refine wpAnyH_take (i := 0) (v := .pointer (some ⟨b, 0, none⟩)) rfl (by kernel_rfl) (by kernel_rfl) (by kernel_rfl) (fun _ _ _ h => h) (Or.inl ⟨by rfl, ?_⟩) hS0 ?_
  · intro Y hY
    skip
    go_simp
  simp only [Act.put, zqA, zqC, zqD, zqE, zqF]
  refine wpAnyH_take (i := 1) (v := iv ol od (.slice ao oxs.length co)) rfl (by kernel_rfl) (by kernel_rfl) (by kernel_rfl) (fun _ _ _ h => h) (Or.inl ⟨by rfl, ?_⟩) hS0 ?_
  · intro Y hY
    obtain ⟨⟨z0, z1, z2⟩, z3⟩ := hY
    go_simp
  simp only [Act.put, zqA, zqB, zqC, zqD, zqE, zqF]
  refine wpAnyH_take (i := 2) (v := .pointer (some ⟨g5, 0, none⟩)) rfl (by kernel_rfl) (by kernel_rfl) (by kernel_rfl) (fun _ _ _ h => h) (Or.inl ⟨by rfl, ?_⟩) hS0 ?_
  · intro Y hY
    skip
    go_simp
  simp only [Act.put, zqA, zqB, zqC, zqD, zqE, zqF]
  refine wpAnyH_take (i := 3) (v := .int .i64 (k : Nat)) rfl (by kernel_rfl) (by kernel_rfl) (by kernel_rfl) (fun _ _ _ h => h) (Or.inl ⟨by rfl, ?_⟩) hS0 ?_
  · intro Y hY
    obtain ⟨⟨z0, z1, z2⟩, z3⟩ := hY
    go_simp
  simp only [Act.put, zqA, zqB, zqC, zqD, zqE, zqF]
  refine wpAnyH_ready (rs := [4]) (by kernel_rfl) (by simp) ?_
  refine AllReadyH.cons rfl (fun K hK => ?_) AllReadyH.nil
  go_simp
  refine (HM.out _).mono ?_
  rintro e w6 ⟨rfl, hb6⟩
  have HSD6 := Lib.hid (HSD.out.kept hb6)
  have HLD6 := Lib.hid ((HLD.out.from_ hb6).mono hb6.size)
  have HBD6 := Lib.hid (HBD.out.trans (But.of hb6))
  have hS6 : Box w6 g6 ol od (.slice ao oxs.length co) ∧ w6.cell? ⟨g5, 0, none⟩ = some (.int .i64 (k : Nat)) := ⟨⟨(hb6.cell (p := ⟨_, _, _⟩) hzd).trans hS0.1.c0, (hb6.cell (p := ⟨_, _, _⟩) hzd).trans hS0.1.c1, (hb6.cell (p := ⟨_, _, _⟩) hzd).trans hS0.1.c2⟩, (hb6.cell (p := ⟨g5, _, _⟩) (by show g5 < _; omega)).trans hS0.2⟩
  have hzd6 := Nat.lt_of_lt_of_le hzd hb6.size
  have HR46 := Lib.hid ((hb6.block g4 (by omega)).trans HR45.out)
  have HR56 := Lib.hid ((hb6.block g5 (by omega)).trans HR55.out)
  clear hb6 HSD HLD HBD HR45 HR55 hbx HM
  try dsimp only
  refine hK.out _ _ hS6 (fun _ => ?_)
  clear hK K
  simp only [List.setIfInBounds_toArray, List.set_cons_zero, List.set_cons_succ]
  refine wpAnyH_ready (rs := [5]) (by kernel_rfl) (by simp) ?_
  refine AllReadyH.cons rfl (fun K hK => ?_) AllReadyH.nil
  go_simp
  refine (HLI.out _ _ _ _ HSD6.out HLD6.out).mono ?_
  rintro e w7 ⟨⟨ap, cp, rfl, LP⟩, s7, q7⟩
  have hS7 : Box w7 g6 ol od (.slice ao oxs.length co) ∧ w7.cell? ⟨g5, 0, none⟩ = some (.int .i64 (k : Nat)) := ⟨⟨(q7.cell (p := ⟨_, _, _⟩) hzd6 (by show g6 ≠ b; omega)).trans hS6.1.c0, (q7.cell (p := ⟨_, _, _⟩) hzd6 (by show g6 ≠ b; omega)).trans hS6.1.c1, (q7.cell (p := ⟨_, _, _⟩) hzd6 (by show g6 ≠ b; omega)).trans hS6.1.c2⟩, (q7.cell (p := ⟨g5, _, _⟩) (by show g5 < _; omega) (by show g5 ≠ b; omega)).trans hS6.2⟩
  have hrow4 := (q7.block g4 (by omega) (by omega)).trans HR46.out
  have hrow5 := (q7.block g5 (by omega) (by omega)).trans HR56.out
  have HR47 := Lib.hid hrow4
  have HR57 := Lib.hid hrow5
  have HS7 := Lib.hid s7
  have HB7 := Lib.hid (HBD6.out.trans q7)
  have HL7 := Lib.hid LP
  have hz7 := Nat.lt_of_lt_of_le hzd6 q7.size
  clear HSD6 HLD6 HBD6 HR46 HR56 s7 q7 LP HLI hrow4 hrow5
  try dsimp only
  refine hK.out _ _ hS7 (fun _ => ?_)
  clear hK K
  simp only [List.setIfInBounds_toArray, List.set_cons_zero, List.set_cons_succ]
  refine wpAnyH_take (i := 6) (v := .slice ap 5 cp) rfl (by kernel_rfl) (by kernel_rfl) (by kernel_rfl) (fun _ _ _ h => h) (Or.inl ⟨by rfl, ?_⟩) hS7 ?_
  · intro Y hY
    skip
    go_simp
  simp only [Act.put, zqA, zqB, zqC, zqD, zqE, zqF]
  refine wpAnyH_done (by kernel_rfl) ?_ _
  clear hS0 hS6 hS7
  have s7z := HS7.out.zero
  have HG7 : Hid (Stg w b g4 g5 [.mk l0 d0 ys0, .mk l1 d1 ys1, .mk l2 d2 ys2, .mk l3 d3 ys3, .mk l4 d4 ys4] (.slice ap 5 cp) w7 0 #[.int .i64 (k : Nat), .bool false, .int .u64 0, .slice none 0 0, .bool false, .int .u64 0, .int .u64 0]) := Lib.hid ⟨HS7.out, HB7.out, HL7.out, HR47.out, HR57.out⟩
  obtain ⟨a_, c_, e_, hcp, hmx⟩ := HL7.out.slice
  cases e_
  have hcp : 5 ≤ cp := hcp
  have hwg : w.heap.size ≤ g4 := by omega
  clear HS7 HB7 HL7 HR47 HR57 hzd hzd6 hz7
  obtain ⟨q_, o_, cp_, l_, d_, ys_, u_, hv_, hq_, hs_, x0, x1, x2, hu_⟩ := HG7.out.ly.at_ (k := 0) (by show 0 < 5; omega)
  cases hv_
  have hs_ : some (M.It.mk l0 d0 ys0) = some (M.It.mk l_ d_ ys_) := hs_
  cases hs_
  obtain ⟨ax, cx, rfl, _, _⟩ := hu_.slice
  replace x0 : w7.cell? ⟨q_, o_, none⟩ = _ := x0
  replace x1 : w7.cell? ⟨q_, o_ + 1, none⟩ = _ := x1
  replace x2 : w7.cell? ⟨q_, o_ + 2, none⟩ = _ := x2
  have HU := Lib.hid hu_
  clear hu_ hq_
  go_wp2_with fail
  refine (HST.out _ _ _ _ HG7.out.rs HU.out).mono ?_
  rintro e w8 ⟨rfl, s_, q_9⟩
  have HG8 := Lib.hid (HG7.out.next (by omega) (by omega) s_ q_9)
  clear s7z s_ q_9 x0 x1 x2 HU HST HG7
  have r5 := HG8.out.r5
  obtain ⟨⟨_, z0⟩, ⟨_, z1⟩, ⟨_, z2⟩, ⟨_, z3⟩, ⟨_, z4⟩, ⟨_, z5⟩, ⟨_, z6⟩, y⟩ := cells_seven r5
  have hw_ := setCell_eq_setRow w8 g5 1 _ _ (0, 0) (.bool st.1) r5
  change _ = w8.setRow g5 #[.int .i64 (k : Nat), .bool st.1, .int .u64 0, .slice none 0 0, .bool false, .int .u64 0, .int .u64 0] at hw_
  have hg_ := HG8.out.set (by omega) (by omega) (by omega) (NoTxt.rc rfl r5) #[.int .i64 (k : Nat), .bool st.1, .int .u64 0, .slice none 0 0, .bool false, .int .u64 0, .int .u64 0]
  obtain ⟨w9, hw9⟩ : ∃ w9, w8.setRow g5 #[.int .i64 (k : Nat), .bool st.1, .int .u64 0, .slice none 0 0, .bool false, .int .u64 0, .int .u64 0] = w9 := ⟨_, rfl⟩
  rw [hw9] at hw_ hg_
  have HW9 := Lib.hid hw_
  have HG9 := Lib.hid hg_
  clear r5 hw_ hg_ hw9 HG8 z0 z2 z3 z4 z5 z6
  obtain ⟨q_, o_, cp_, l_, d_, ys_, u_, hv_, hq_, hs_, x0, x1, x2, hu_⟩ := HG9.out.ly.at_ (k := 1) (by show 1 < 5; omega)
  cases hv_
  have hs_ : some (M.It.mk l1 d1 ys1) = some (M.It.mk l_ d_ ys_) := hs_
  cases hs_
  obtain ⟨ax, cx, rfl, _, _⟩ := hu_.slice
  replace x0 : w9.cell? ⟨q_, o_ + 3, none⟩ = _ := x0
  replace x1 : w9.cell? ⟨q_, o_ + 4, none⟩ = _ := x1
  replace x2 : w9.cell? ⟨q_, o_ + 5, none⟩ = _ := x2
  have HU := Lib.hid hu_
  clear hu_ hq_
  go_wp2_with (first | rw [HW9.out])
  refine (HGA.out _ _ _ _ HG9.out.rs HU.out).mono ?_
  rintro e w10 ⟨rfl, s_, q_9⟩
  have HG10 := Lib.hid (HG9.out.next (by omega) (by omega) s_ q_9)
  clear s_ q_9 x0 x1 x2 HU HGA HG9
  have r5 := HG10.out.r5
  obtain ⟨⟨_, z0⟩, ⟨_, z1⟩, ⟨_, z2⟩, ⟨_, z3⟩, ⟨_, z4⟩, ⟨_, z5⟩, ⟨_, z6⟩, y⟩ := cells_seven r5
  have hw_ := setCell_eq_setRow w10 g5 2 _ _ (0, 0) (.int .u64 (ga.1 : Nat)) r5
  change _ = w10.setRow g5 #[.int .i64 (k : Nat), .bool st.1, .int .u64 (ga.1 : Nat), .slice none 0 0, .bool false, .int .u64 0, .int .u64 0] at hw_
  have hg_ := HG10.out.set (by omega) (by omega) (by omega) (NoTxt.rc rfl r5) #[.int .i64 (k : Nat), .bool st.1, .int .u64 (ga.1 : Nat), .slice none 0 0, .bool false, .int .u64 0, .int .u64 0]
  obtain ⟨w11, hw11⟩ : ∃ w11, w10.setRow g5 #[.int .i64 (k : Nat), .bool st.1, .int .u64 (ga.1 : Nat), .slice none 0 0, .bool false, .int .u64 0, .int .u64 0] = w11 := ⟨_, rfl⟩
  rw [hw11] at hw_ hg_
  have HW11 := Lib.hid hw_
  have HG11 := Lib.hid hg_
  clear r5 hw_ hg_ hw11 HG10 z0 z1 z3 z4 z5 z6
  obtain ⟨q_, o_, cp_, l_, d_, ys_, u_, hv_, hq_, hs_, x0, x1, x2, hu_⟩ := HG11.out.ly.at_ (k := 2) (by show 2 < 5; omega)
  cases hv_
  have hs_ : some (M.It.mk l2 d2 ys2) = some (M.It.mk l_ d_ ys_) := hs_
  cases hs_
  obtain ⟨ax, cx, rfl, _, _⟩ := hu_.slice
  replace x0 : w11.cell? ⟨q_, o_ + 6, none⟩ = _ := x0
  replace x1 : w11.cell? ⟨q_, o_ + 7, none⟩ = _ := x1
  replace x2 : w11.cell? ⟨q_, o_ + 8, none⟩ = _ := x2
  have HU := Lib.hid hu_
  clear hu_ hq_
  go_wp2_with (first | rw [HW11.out])
  refine (HLR.out _ _ _ _ HG11.out.rs HU.out).mono ?_
  rintro e w12 ⟨⟨al, cl, rfl, L_⟩, s_, q_9⟩
  have HG12 := Lib.hid (HG11.out.next (by omega) (by omega) s_ q_9)
  have HL9 := Lib.hid L_
  clear s_ q_9 x0 x1 x2 HU HLR HG11 L_
  go_wp2_with fail
  refine (HLG.out _ _ _ HG12.out.rs HL9.out).mono ?_
  rintro e w13 ⟨⟨vl, rfl, LS_⟩, s_, q_9⟩
  have HG13 := Lib.hid (HG12.out.next (by omega) (by omega) s_ q_9)
  obtain ⟨avl, cvl, rfl, _, _⟩ := LS_.slice
  have HLS13 := Lib.hid LS_
  clear s_ q_9 HLG HG12 HL9 LS_
  have r5 := HG13.out.r5
  obtain ⟨⟨_, z0⟩, ⟨_, z1⟩, ⟨_, z2⟩, ⟨_, z3⟩, ⟨_, z4⟩, ⟨_, z5⟩, ⟨_, z6⟩, y⟩ := cells_seven r5
  have hw_ := setCell_eq_setRow w13 g5 3 _ _ (0, 0) (.slice avl lg.1.length cvl) r5
  change _ = w13.setRow g5 #[.int .i64 (k : Nat), .bool st.1, .int .u64 (ga.1 : Nat), .slice avl lg.1.length cvl, .bool false, .int .u64 0, .int .u64 0] at hw_
  have hg_ := HG13.out.set (by omega) (by omega) (by omega) (NoTxt.rc rfl r5) #[.int .i64 (k : Nat), .bool st.1, .int .u64 (ga.1 : Nat), .slice avl lg.1.length cvl, .bool false, .int .u64 0, .int .u64 0]
  have hl_ := HLS13.out.rowN (NoTxt.rc rfl r5) #[.int .i64 (k : Nat), .bool st.1, .int .u64 (ga.1 : Nat), .slice avl lg.1.length cvl, .bool false, .int .u64 0, .int .u64 0]
  obtain ⟨w14, hw14⟩ : ∃ w14, w13.setRow g5 #[.int .i64 (k : Nat), .bool st.1, .int .u64 (ga.1 : Nat), .slice avl lg.1.length cvl, .bool false, .int .u64 0, .int .u64 0] = w14 := ⟨_, rfl⟩
  rw [hw14] at hw_ hg_
  have HW14 := Lib.hid hw_
  have HG14 := Lib.hid hg_
  have hsz_ : w14.heap.size = w13.heap.size := by rw [← hw14, setRow_size]
  rw [hw14, ← hsz_] at hl_
  have HLS14 := Lib.hid hl_
  clear r5 hw_ hg_ hw14 HG13 z0 z1 z2 z4 z5 z6 hl_ hsz_ HLS13
  have r5 := HG14.out.r5
  obtain ⟨⟨_, z0⟩, ⟨_, z1⟩, ⟨_, z2⟩, ⟨_, z3⟩, ⟨_, z4⟩, ⟨_, z5⟩, ⟨_, z6⟩, y⟩ := cells_seven r5
  have hw_ := setCell_eq_setRow w14 g5 4 _ _ (0, 0) (.bool true) r5
  change _ = w14.setRow g5 #[.int .i64 (k : Nat), .bool st.1, .int .u64 (ga.1 : Nat), .slice avl lg.1.length cvl, .bool true, .int .u64 0, .int .u64 0] at hw_
  have hg_ := HG14.out.set (by omega) (by omega) (by omega) (NoTxt.rc rfl r5) #[.int .i64 (k : Nat), .bool st.1, .int .u64 (ga.1 : Nat), .slice avl lg.1.length cvl, .bool true, .int .u64 0, .int .u64 0]
  have hl_ := HLS14.out.rowN (NoTxt.rc rfl r5) #[.int .i64 (k : Nat), .bool st.1, .int .u64 (ga.1 : Nat), .slice avl lg.1.length cvl, .bool true, .int .u64 0, .int .u64 0]
  obtain ⟨w15, hw15⟩ : ∃ w15, w14.setRow g5 #[.int .i64 (k : Nat), .bool st.1, .int .u64 (ga.1 : Nat), .slice avl lg.1.length cvl, .bool true, .int .u64 0, .int .u64 0] = w15 := ⟨_, rfl⟩
  rw [hw15] at hw_ hg_
  have HW15 := Lib.hid hw_
  have HG15 := Lib.hid hg_
  have hsz_ : w15.heap.size = w14.heap.size := by rw [← hw15, setRow_size]
  rw [hw15, ← hsz_] at hl_
  have HLS15 := Lib.hid hl_
  clear r5 hw_ hg_ hw15 HG14 z0 z1 z2 z3 z5 z6 hl_ hsz_ HLS14
  obtain ⟨q_, o_, cp_, l_, d_, ys_, u_, hv_, hq_, hs_, x0, x1, x2, hu_⟩ := HG15.out.ly.at_ (k := 3) (by show 3 < 5; omega)
  cases hv_
  have hs_ : some (M.It.mk l3 d3 ys3) = some (M.It.mk l_ d_ ys_) := hs_
  cases hs_
  obtain ⟨ax, cx, rfl, _, _⟩ := hu_.slice
  replace x0 : w15.cell? ⟨q_, o_ + 9, none⟩ = _ := x0
  replace x1 : w15.cell? ⟨q_, o_ + 10, none⟩ = _ := x1
  replace x2 : w15.cell? ⟨q_, o_ + 11, none⟩ = _ := x2
  have HU := Lib.hid hu_
  clear hu_ hq_
  go_wp2_with (first | rw [HW15.out] | rw [HW14.out])
  refine (HNO.out _ _ _ _ HG15.out.rs HU.out).mono ?_
  rintro e w16 ⟨rfl, s_, q_9⟩
  have HG16 := Lib.hid (HG15.out.next (by omega) (by omega) s_ q_9)
  have HLS16 := Lib.hid (HLS15.out.butk HG15.out.rs q_9)
  clear s_ q_9 x0 x1 x2 HU HNO HG15 HLS15
  have r5 := HG16.out.r5
  obtain ⟨⟨_, z0⟩, ⟨_, z1⟩, ⟨_, z2⟩, ⟨_, z3⟩, ⟨_, z4⟩, ⟨_, z5⟩, ⟨_, z6⟩, y⟩ := cells_seven r5
  have hw_ := setCell_eq_setRow w16 g5 5 _ _ (0, 0) (.int .u64 (no.1 : Nat)) r5
  change _ = w16.setRow g5 #[.int .i64 (k : Nat), .bool st.1, .int .u64 (ga.1 : Nat), .slice avl lg.1.length cvl, .bool true, .int .u64 (no.1 : Nat), .int .u64 0] at hw_
  have hg_ := HG16.out.set (by omega) (by omega) (by omega) (NoTxt.rc rfl r5) #[.int .i64 (k : Nat), .bool st.1, .int .u64 (ga.1 : Nat), .slice avl lg.1.length cvl, .bool true, .int .u64 (no.1 : Nat), .int .u64 0]
  have hl_ := HLS16.out.rowN (NoTxt.rc rfl r5) #[.int .i64 (k : Nat), .bool st.1, .int .u64 (ga.1 : Nat), .slice avl lg.1.length cvl, .bool true, .int .u64 (no.1 : Nat), .int .u64 0]
  obtain ⟨w17, hw17⟩ : ∃ w17, w16.setRow g5 #[.int .i64 (k : Nat), .bool st.1, .int .u64 (ga.1 : Nat), .slice avl lg.1.length cvl, .bool true, .int .u64 (no.1 : Nat), .int .u64 0] = w17 := ⟨_, rfl⟩
  rw [hw17] at hw_ hg_
  have HW17 := Lib.hid hw_
  have HG17 := Lib.hid hg_
  have hsz_ : w17.heap.size = w16.heap.size := by rw [← hw17, setRow_size]
  rw [hw17, ← hsz_] at hl_
  have HLS17 := Lib.hid hl_
  clear r5 hw_ hg_ hw17 HG16 z0 z1 z2 z3 z4 z6 hl_ hsz_ HLS16
  obtain ⟨q_, o_, cp_, l_, d_, ys_, u_, hv_, hq_, hs_, x0, x1, x2, hu_⟩ := HG17.out.ly.at_ (k := 4) (by show 4 < 5; omega)
  cases hv_
  have hs_ : some (M.It.mk l4 d4 ys4) = some (M.It.mk l_ d_ ys_) := hs_
  cases hs_
  obtain ⟨ax, cx, rfl, _, _⟩ := hu_.slice
  replace x0 : w17.cell? ⟨q_, o_ + 12, none⟩ = _ := x0
  replace x1 : w17.cell? ⟨q_, o_ + 13, none⟩ = _ := x1
  replace x2 : w17.cell? ⟨q_, o_ + 14, none⟩ = _ := x2
  have HU := Lib.hid hu_
  clear hu_ hq_
  go_wp2_with (first | rw [HW17.out])
  refine (HVE.out _ _ _ _ HG17.out.rs HU.out).mono ?_
  rintro e w18 ⟨rfl, s_, q_9⟩
  have HG18 := Lib.hid (HG17.out.next (by omega) (by omega) s_ q_9)
  have HLS18 := Lib.hid (HLS17.out.butk HG17.out.rs q_9)
  clear s_ q_9 x0 x1 x2 HU HVE HG17 HLS17
  have r5 := HG18.out.r5
  obtain ⟨⟨_, z0⟩, ⟨_, z1⟩, ⟨_, z2⟩, ⟨_, z3⟩, ⟨_, z4⟩, ⟨_, z5⟩, ⟨_, z6⟩, y⟩ := cells_seven r5
  have hw_ := setCell_eq_setRow w18 g5 6 _ _ (0, 0) (.int .u64 (ve.1 : Nat)) r5
  change _ = w18.setRow g5 #[.int .i64 (k : Nat), .bool st.1, .int .u64 (ga.1 : Nat), .slice avl lg.1.length cvl, .bool true, .int .u64 (no.1 : Nat), .int .u64 (ve.1 : Nat)] at hw_
  have hg_ := HG18.out.set (by omega) (by omega) (by omega) (NoTxt.rc rfl r5) #[.int .i64 (k : Nat), .bool st.1, .int .u64 (ga.1 : Nat), .slice avl lg.1.length cvl, .bool true, .int .u64 (no.1 : Nat), .int .u64 (ve.1 : Nat)]
  have hl_ := HLS18.out.rowN (NoTxt.rc rfl r5) #[.int .i64 (k : Nat), .bool st.1, .int .u64 (ga.1 : Nat), .slice avl lg.1.length cvl, .bool true, .int .u64 (no.1 : Nat), .int .u64 (ve.1 : Nat)]
  obtain ⟨w19, hw19⟩ : ∃ w19, w18.setRow g5 #[.int .i64 (k : Nat), .bool st.1, .int .u64 (ga.1 : Nat), .slice avl lg.1.length cvl, .bool true, .int .u64 (no.1 : Nat), .int .u64 (ve.1 : Nat)] = w19 := ⟨_, rfl⟩
  rw [hw19] at hw_ hg_
  have HW19 := Lib.hid hw_
  have HG19 := Lib.hid hg_
  have hsz_ : w19.heap.size = w18.heap.size := by rw [← hw19, setRow_size]
  rw [hw19, ← hsz_] at hl_
  have HLS19 := Lib.hid hl_
  clear r5 hw_ hg_ hw19 HG18 z0 z1 z2 z3 z4 z5 hl_ hsz_ HLS18
  have r5 := HG19.out.r5
  have c0 : w19.cell? ⟨g5, 0, none⟩ = some (.int .i64 (k : Nat)) := by simp [World.cell?, r5]
  have c1 : w19.cell? ⟨g5, 1, none⟩ = some (.bool st.1) := by simp [World.cell?, r5]
  have c2 : w19.cell? ⟨g5, 2, none⟩ = some (.int .u64 (ga.1 : Nat)) := by simp [World.cell?, r5]
  have c3 : w19.cell? ⟨g5, 3, none⟩ = some (.slice avl lg.1.length cvl) := by simp [World.cell?, r5]
  have c4 : w19.cell? ⟨g5, 4, none⟩ = some (.bool true) := by simp [World.cell?, r5]
  have c5 : w19.cell? ⟨g5, 5, none⟩ = some (.int .u64 (no.1 : Nat)) := by simp [World.cell?, r5]
  have c6 : w19.cell? ⟨g5, 6, none⟩ = some (.int .u64 (ve.1 : Nat)) := by simp [World.cell?, r5]
  obtain ⟨⟨_, z0⟩, ⟨_, z1⟩, ⟨_, z2⟩, ⟨_, z3⟩, ⟨_, z4⟩, ⟨_, z5⟩, ⟨_, z6⟩, y4⟩ := cells_seven HG19.out.r4
  clear r5
  have hlt4 := HG19.out.lt4
  have hbg4 : b ≠ g4 := by omega
  go_wp2_with (first | rw [HW19.out])
  all_goals
    rw [set_seven HG19.out.r4]
    refine rc_row rfl w19 _ #[.int .i64 (k : Nat), .bool st.1, .int .u64 (ga.1 : Nat), .slice avl lg.1.length cvl, .bool true, .int .u64 (no.1 : Nat), .int .u64 (ve.1 : Nat)] _ rfl g4 HG19.out.r4 _ ?_ ?_
    · rfl
    · refine ⟨⟨_, rfl, ?_⟩, HG19.out.rs.row hbg4 _, HG19.out.bt.row hwg _⟩
      rw [setRow_size]
      exact HLS19.out.rowN (NoTxt.rc rfl HG19.out.r4) _
end Go.Proofs.YtebjhbeaknokkaaGreatDoor
namespace Go.Proofs.YtebjhbeaknokkaaGreatDoor
open Go Go.RowKit Go.Lib
attribute [local go_sem] Oper.semAt_some

theorem rreceipt_any (b : Nat) (s : List UInt8) (w : World) (hS : RS w b 0) (hG : M.Gd (M.rdI (kdOf s).2 (s.drop (M.headR (kdOf s).1).length)).1) (hs : s.length ≤ 200000) :
    Calls Tryz.prog 34 #[.pointer (some ⟨b, 0, none⟩), .string ⟨s.toArray⟩] w fun e w' => (∃ v, e = .returned (rcv (M.rdRc s).1 v) ∧ Ls w' w'.heap.size (M.rdRc s).1.logs v) ∧ RS w' b (M.rdRc s).2 ∧ But b w w' := by
  by_cases h : (M.rdL (M.rdI (kdOf s).2 (s.drop (M.headR (kdOf s).1).length)).2 3 (M.mostP (kdOf s).1) (M.rdI (kdOf s).2 (s.drop (M.headR (kdOf s).1).length)).1).2 = 0
  · have hm : M.mostP (kdOf s).1 ≤ 5 := by unfold M.mostP; split <;> omega
    obtain ⟨h1, h2⟩ := M.rdL_len h
    have k3 := rreceipt_3 b s w hS hG hs
    have k4 := rreceipt_4 b s w hS hG hs
    have k5 := rreceipt_5 b s w hS hG hs
    obtain ⟨p, hp⟩ : ∃ p, (M.rdL (M.rdI (kdOf s).2 (s.drop (M.headR (kdOf s).1).length)).2 3 (M.mostP (kdOf s).1) (M.rdI (kdOf s).2 (s.drop (M.headR (kdOf s).1).length)).1).1 = p := ⟨_, rfl⟩
    have he : M.rdL (M.rdI (kdOf s).2 (s.drop (M.headR (kdOf s).1).length)).2 3 (M.mostP (kdOf s).1) (M.rdI (kdOf s).2 (s.drop (M.headR (kdOf s).1).length)).1 = (p, 0) := by rw [← hp, ← h]
    rw [hp] at h1 h2
    match p, h1, h2, he with
    | [.mk l0 d0 ys0, .mk l1 d1 ys1, .mk l2 d2 ys2], _, _, he => exact k3 l0 d0 ys0 l1 d1 ys1 l2 d2 ys2 he
    | [.mk l0 d0 ys0, .mk l1 d1 ys1, .mk l2 d2 ys2, .mk l3 d3 ys3], _, _, he => exact k4 l0 d0 ys0 l1 d1 ys1 l2 d2 ys2 l3 d3 ys3 he
    | [.mk l0 d0 ys0, .mk l1 d1 ys1, .mk l2 d2 ys2, .mk l3 d3 ys3, .mk l4 d4 ys4], _, _, he => exact k5 l0 d0 ys0 l1 d1 ys1 l2 d2 ys2 l3 d3 ys3 l4 d4 ys4 he
    | [], h1, _, _ => simp at h1
    | [_], h1, _, _ => simp at h1
    | [_, _], h1, _, _ => simp at h1
    | _ :: _ :: _ :: _ :: _ :: _ :: _, _, h2, _ =>
      simp only [List.length_cons] at h2
      omega
  · exact rreceipt_no b s w hS hG hs fun n p hp hn => h (by rw [hp]; exact hn)
def M.decR (s : List UInt8) : M.Rc × Nat := if (M.rdRc s).2 = 0 then M.rdRc s else (⟨0, false, 0, [], false, 0, 0⟩, (M.rdRc s).2)
end Go.Proofs.YtebjhbeaknokkaaGreatDoor
namespace Go.Proofs.YtebjhbeaknokkaaGreatDoor
open Go Go.RowKit Go.Lib
attribute [local go_sem] Oper.semAt_some

theorem rcd_row {fn : Func} (hres : fn.results = #[.cell 2 25, .tmp 3]) (w1 : World) (tmps : Array Value) (cs old : Array Value) (hz : cs.size = 7) (g : Nat) (er : Nat)
    (hrow : w1.heap[g]? = some (.cells old 25 (0, 0))) (R : Ending → World → Prop) (hp : tmps.getD 2 undef = .pointer (some ⟨g, 0, none⟩)) (h3 : tmps.getD 3 undef = .int .i64 (er : Nat))
    (h : R (.returned (.tuple #[.agg cs, .int .i64 (er : Nat)])) (w1.setRow g cs)) :
    bodyPost Tryz.prog fn R .ret { tmps := tmps, defers := [] } (w1.setRow g cs) := by
  have := results_cell_one hres tmps Tryz.prog (w1.setRow g cs) ⟨g, 0, none⟩ (.agg cs) hp (run_loadVar_row _ _ _ _ _ (0, 0) _ (setRow_heap w1 g old cs 25 (0, 0) hrow) Tryz.underlying25 rfl (by rw [Tryz.rcSize, hz]))
  rw [h3] at this
  exact bodyPost_ret this rfl h
theorem RS.new (w : World) : RS (w.alloc (.cells #[.nilIface] 62)) w.heap.size 0 := ⟨_, heap_alloc_new w _, .inl ⟨rfl, rfl⟩⟩
set_option maxRecDepth 100000 in
set_option maxHeartbeats 8000000 in
theorem pdecode_any (s : List UInt8) (w : World) (hg : w.cell? ⟨0, 0, none⟩ = some (.iface 238 (.agg #[.pointer (some ⟨4, 60, none⟩)]))) (hG : M.Gd (M.rdI (kdOf s).2 (s.drop (M.headR (kdOf s).1).length)).1) (hs : s.length ≤ 200000) :
    Calls Tryz.prog 15 #[.string ⟨s.toArray⟩] w fun e w' => (∃ v, e = .returned (.tuple #[rcv (M.decR s).1 v, .int .i64 ((M.decR s).2 : Nat)]) ∧ Ls w' w'.heap.size (M.decR s).1.logs v) ∧ Below w.heap.size w w' := by
  have hgl : 0 < w.heap.size := addr_lt hg
  obtain ⟨g2, hg2⟩ : ∃ g2, w.heap.size = g2 := ⟨_, rfl⟩
  obtain ⟨w0, hw0⟩ : ∃ w0, w.alloc (.cells #[.int .i64 0, .bool false, .int .u64 0, .slice none 0 0, .bool false, .int .u64 0, .int .u64 0] 25) = w0 := ⟨_, rfl⟩
  have hb0 : Below w.heap.size w w0 := by rw [← hw0]; exact (Below.refl _ _).alloc (Nat.le_refl _) _
  have hz0 : w0.heap.size = g2 + 1 := by rw [← hw0, ← hg2]; simp
  have hrow0 : w0.heap[g2]? = some (.cells #[.int .i64 0, .bool false, .int .u64 0, .slice none 0 0, .bool false, .int .u64 0, .int .u64 0] 25 (0, 0)) := by rw [← hw0, ← hg2]; exact heap_alloc_new w _
  obtain ⟨w1, hw1⟩ : ∃ w1, w0.alloc (.cells #[.nilIface] 62) = w1 := ⟨_, rfl⟩
  have hb1 : Below w0.heap.size w0 w1 := by rw [← hw1]; exact (Below.refl _ _).alloc (Nat.le_refl _) _
  have hS1 : RS w1 (g2 + 1) 0 := by rw [← hw1, ← hz0]; exact RS.new w0
  have hrow1 := (hb1.block g2 (by omega)).trans hrow0
  have hbw := hb0.trans (hb1.mono (by omega))
  have hg1 := (hbw.cell (p := ⟨0, 0, none⟩) hgl).trans hg
  have HR := Lib.hid (rreceipt_any (g2 + 1) s w1 hS1 hG hs)
  have hd : M.decR s = if (M.rdRc s).2 = 0 then M.rdRc s else (⟨0, false, 0, [], false, 0, 0⟩, (M.rdRc s).2) := rfl
  rw [hd]
  clear hd
  generalize M.rdRc s = r at *
  obtain ⟨⟨k, st, ga, ls, fu, no, ve⟩, n⟩ := r
  dsimp only at *
  have HW := Lib.hid hw0
  have HW1 := Lib.hid hw1
  have HB := Lib.hid hbw
  have HR1 := Lib.hid hrow1
  have HS1 := Lib.hid hS1
  have HG := Lib.hid hg1
  clear hw0 hw1 hb0 hb1 hrow0 hrow1 hS1 hg1 hG hs hbw hg
  have key : ∀ (w2 : World) (v : Value) (a : Option Addr) (m c : Nat), v = .slice a m c → RS w2 (g2 + 1) n → But (g2 + 1) w1 w2 → Ls w2 w2.heap.size ls v → ∃ w3, w2.alloc (.cells #[.int .i64 k, .bool st, .int .u64 (ga : Nat), v, .bool fu, .int .u64 (no : Nat), .int .u64 (ve : Nat)] 25) = w3 ∧ RS w3 (g2 + 1) n ∧ Below g2 w w3 ∧ w3.heap[g2]? = some (.cells #[.int .i64 0, .bool false, .int .u64 0, .slice none 0 0, .bool false, .int .u64 0, .int .u64 0] 25 (0, 0)) ∧ w3.heap[w2.heap.size]? = some (.cells #[.int .i64 k, .bool st, .int .u64 (ga : Nat), v, .bool fu, .int .u64 (no : Nat), .int .u64 (ve : Nat)] 25 (0, 0)) ∧ Ls w3 w3.heap.size ls v ∧ w3.cell? ⟨0, 0, none⟩ = some (.iface 238 (.agg #[.pointer (some ⟨4, 60, none⟩)])) ∧ w3.heap.size = w2.heap.size + 1 ∧ g2 + 1 < w2.heap.size := by
    intro w2 v a m c hv hs hb hl
    have h2 : Below w2.heap.size w2 (w2.alloc (.cells #[.int .i64 k, .bool st, .int .u64 (ga : Nat), v, .bool fu, .int .u64 (no : Nat), .int .u64 (ve : Nat)] 25)) := (Below.refl _ _).alloc (Nat.le_refl _) _
    have q1 := HS1.out.lt
    have q2 := hb.size
    refine ⟨_, rfl, hs.kept h2, ?_, ?_, heap_alloc_new w2 _, hl.kept h2, ?_, by simp, by omega⟩
    · have := HB.out
      rw [hg2] at this
      exact this.trans (((hb.below (by omega)).mono (by omega)).trans (h2.mono (by omega)))
    · exact (h2.block g2 (by omega)).trans ((hb.block g2 (by omega) (by omega)).trans HR1.out)
    · exact (h2.cell (p := ⟨0, 0, none⟩) (by show 0 < _; omega)).trans ((hb.cell (p := ⟨0, 0, none⟩) (by show 0 < _; omega) (by show 0 ≠ _; omega)).trans HG.out)
  have HK := Lib.hid key
  clear key
  by_cases hn : n = 0
  · subst hn
    rw [if_pos rfl]
    go_enter Tryz.func15, Tryz.ntmps15
    go_wp2_with (first | rw [HW1.out] | rw [HW.out] | rw [hg2] | rw [hz0])
    refine HR.out.mono ?_
    rintro e w2 ⟨⟨v, rfl, L2⟩, s2, q2⟩
    obtain ⟨av, cv, rfl, _, _⟩ := L2.slice
    obtain ⟨w3, hw3, s3, b3, r2, r5, L3, _, z3, lt3⟩ := HK.out w2 _ _ _ _ rfl s2 q2 L2
    have s3z := s3.zero
    have HN := Lib.hid (fun W => numberOf_nil W)
    have HW3 := Lib.hid hw3
    have HB3 := Lib.hid b3
    have HR2 := Lib.hid r2
    have HR5 := Lib.hid r5
    have HL3 := Lib.hid L3
    clear hw3 s3 b3 r2 r5 L3 s2 q2 L2 HK
    go_wp2_with (rw [HW3.out])
    refine (HN.out _).mono ?_
    rintro e w4 ⟨rfl, hb4⟩
    have r2 := (hb4.block g2 (by omega)).trans HR2.out
    have r5 := (hb4.block w2.heap.size (by omega)).trans HR5.out
    obtain ⟨⟨_, z0⟩, ⟨_, z1⟩, ⟨_, z2⟩, ⟨_, z3⟩, ⟨_, z4⟩, ⟨_, z5⟩, ⟨_, z6⟩, y4⟩ := cells_seven r2
    have c0 : w4.cell? ⟨w2.heap.size, 0, none⟩ = some (.int .i64 k) := by simp [World.cell?, r5]
    have c1 : w4.cell? ⟨w2.heap.size, 1, none⟩ = some (.bool st) := by simp [World.cell?, r5]
    have c2 : w4.cell? ⟨w2.heap.size, 2, none⟩ = some (.int .u64 (ga : Nat)) := by simp [World.cell?, r5]
    have c3 : w4.cell? ⟨w2.heap.size, 3, none⟩ = some (.slice av ls.length cv) := by simp [World.cell?, r5]
    have c4 : w4.cell? ⟨w2.heap.size, 4, none⟩ = some (.bool fu) := by simp [World.cell?, r5]
    have c5 : w4.cell? ⟨w2.heap.size, 5, none⟩ = some (.int .u64 (no : Nat)) := by simp [World.cell?, r5]
    have c6 : w4.cell? ⟨w2.heap.size, 6, none⟩ = some (.int .u64 (ve : Nat)) := by simp [World.cell?, r5]
    have HR24 := Lib.hid r2
    have HL4 := Lib.hid (HL3.out.kept hb4)
    have HB4 := Lib.hid (HB3.out.trans (hb4.mono (by omega)))
    clear r2 r5 hb4 HN HB3 HL3 HR2 HR5
    go_wp2_with fail
    rw [set_seven HR24.out]
    refine rcd_row rfl w4 _ #[.int .i64 k, .bool st, .int .u64 (ga : Nat), .slice av ls.length cv, .bool fu, .int .u64 (no : Nat), .int .u64 (ve : Nat)] _ rfl g2 0 HR24.out _ ?_ ?_ ?_
    · rfl
    · rfl
    · refine ⟨⟨_, rfl, ?_⟩, ?_⟩
      · rw [setRow_size]
        exact HL4.out.rowN (NoTxt.rc rfl HR24.out) _
      · rw [hg2]
        exact HB4.out.trans ⟨rfl, rfl, rfl, by rw [setRow_size]; exact Nat.le_refl _, fun i hi => setRow_other _ _ _ _ (by omega)⟩
  · rw [if_neg hn]
    have hn1 : ((n : Int) == 0) = false := by simp [hn]
    have hnx : ¬ (n : Int) = 0 := by omega
    go_enter Tryz.func15, Tryz.ntmps15
    go_wp2_with (first | rw [HW1.out] | rw [HW.out] | rw [hg2] | rw [hz0])
    refine HR.out.mono ?_
    rintro e w2 ⟨⟨v, rfl, L2⟩, s2, q2⟩
    obtain ⟨av, cv, rfl, _, _⟩ := L2.slice
    obtain ⟨w3, hw3, s3, b3, r2, r5, L3, g3, z3, lt3⟩ := HK.out w2 _ _ _ _ rfl s2 q2 L2
    obtain ⟨sm, s3h⟩ := s3.held hn
    have HN := Lib.hid (numberOf_fault sm n w3 g3)
    have HW3 := Lib.hid hw3
    have HB3 := Lib.hid b3
    have HR2 := Lib.hid r2
    clear hw3 s3 b3 r2 r5 L3 s2 q2 L2 HK g3
    go_wp2_with (rw [HW3.out])
    refine (HN.out).mono ?_
    rintro e w4 ⟨rfl, hb4⟩
    have r2 := (hb4.block g2 (by omega)).trans HR2.out
    obtain ⟨⟨_, z0⟩, ⟨_, z1⟩, ⟨_, z2⟩, ⟨_, z3⟩, ⟨_, z4⟩, ⟨_, z5⟩, ⟨_, z6⟩, y4⟩ := cells_seven r2
    have HR24 := Lib.hid r2
    have HB4 := Lib.hid (HB3.out.trans (hb4.mono (by omega)))
    clear r2 hb4 HN HB3 HR2
    go_wp2_with fail
    rw [set_seven HR24.out]
    refine rcd_row rfl w4 _ #[.int .i64 0, .bool false, .int .u64 0, .slice none 0 0, .bool false, .int .u64 0, .int .u64 0] _ rfl g2 n HR24.out _ ?_ ?_ ?_
    · rfl
    · rfl
    · refine ⟨⟨_, rfl, .nil_ (by decide)⟩, ?_⟩
      rw [hg2]
      exact HB4.out.trans ⟨rfl, rfl, rfl, by rw [setRow_size]; exact Nat.le_refl _, fun i hi => setRow_other _ _ _ _ (by omega)⟩
end Go.Proofs.YtebjhbeaknokkaaGreatDoor
