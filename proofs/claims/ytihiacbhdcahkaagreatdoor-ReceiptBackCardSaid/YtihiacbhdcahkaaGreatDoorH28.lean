/- Package receipt: Decode. Package receipt: Decode. Receipts, plainly: what is read is written just so. Receipts, plainly: a receipt that is read is written just so. -/
import Derived.Test.YtihiacbhdcahkaaGreatDoorTYNg
import Derived.Test.YtihiacbhdcahkaaGreatDoorTYPg
import Derived.Test.YtihiacbhdcahkaaGreatDoorTYQg
namespace Go.Proofs.YtihiacbhdcahkaaGreatDoor
open Go Go.RowKit Go.Lib
attribute [local go_sem] Oper.semAt_some

theorem rreceipt_any (b : Nat) (s : List UInt8) (w : World) (hS : RS w b 0) (hG : M.Gd (M.rdI (kdOf s).2 (s.drop (M.headR (kdOf s).1).length)).1) (hs : s.length ≤ 200000) :
    Calls Tryz.prog 37 #[.pointer (some ⟨b, 0, none⟩), .string ⟨s.toArray⟩] w fun e w' => (∃ v, e = .returned (rcv (M.rdRc s).1 v) ∧ Ls w' w'.heap.size (M.rdRc s).1.logs v) ∧ RS w' b (M.rdRc s).2 ∧ But b w w' := by
  by_cases h : (M.rdL (M.rdI (kdOf s).2 (s.drop (M.headR (kdOf s).1).length)).2 3 (M.mostP (kdOf s).1) (M.rdI (kdOf s).2 (s.drop (M.headR (kdOf s).1).length)).1).2 = 0
  · have hm : M.mostP (kdOf s).1 ≤ 5 := by unfold M.mostP; split <;> omega
    obtain ⟨h1, h2⟩ := M.rdL_len h
    have k3 := rreceipt_3 b s w hS hG hs
    have k4 := rreceipt_4 b s w hS hG hs
    have k5 := rreceipt_5 b s w hS hG hs
    obtain ⟨p, hp⟩ : ∃ p, (M.rdL (M.rdI (kdOf s).2 (s.drop (M.headR (kdOf s).1).length)).2 3 (M.mostP (kdOf s).1) (M.rdI (kdOf s).2 (s.drop (M.headR (kdOf s).1).length)).1).1 = p := ⟨_, rfl⟩
    have he : M.rdL (M.rdI (kdOf s).2 (s.drop (M.headR (kdOf s).1).length)).2 3 (M.mostP (kdOf s).1) (M.rdI (kdOf s).2 (s.drop (M.headR (kdOf s).1).length)).1 = (p, 0) := by rw [← hp, ← h]
    rw [hp] at h1 h2
    match p, h1, h2, he with
    | [.mk l0 d0 ys0, .mk l1 d1 ys1, .mk l2 d2 ys2], _, _, he => exact k3 l0 d0 ys0 l1 d1 ys1 l2 d2 ys2 he
    | [.mk l0 d0 ys0, .mk l1 d1 ys1, .mk l2 d2 ys2, .mk l3 d3 ys3], _, _, he => exact k4 l0 d0 ys0 l1 d1 ys1 l2 d2 ys2 l3 d3 ys3 he
    | [.mk l0 d0 ys0, .mk l1 d1 ys1, .mk l2 d2 ys2, .mk l3 d3 ys3, .mk l4 d4 ys4], _, _, he => exact k5 l0 d0 ys0 l1 d1 ys1 l2 d2 ys2 l3 d3 ys3 l4 d4 ys4 he
    | [], h1, _, _ => simp at h1
    | [_], h1, _, _ => simp at h1
    | [_, _], h1, _, _ => simp at h1
    | _ :: _ :: _ :: _ :: _ :: _ :: _, _, h2, _ =>
      simp only [List.length_cons] at h2
      omega
  · exact rreceipt_no b s w hS hG hs fun n p hp hn => h (by rw [hp]; exact hn)
def M.decR (s : List UInt8) : M.Rc × Nat := if (M.rdRc s).2 = 0 then M.rdRc s else (⟨0, false, 0, [], false, 0, 0⟩, (M.rdRc s).2)
end Go.Proofs.YtihiacbhdcahkaaGreatDoor
namespace Go.Proofs.YtihiacbhdcahkaaGreatDoor
open Go Go.RowKit Go.Lib
attribute [local go_sem] Oper.semAt_some

theorem rcd_row {fn : Func} (hres : fn.results = #[.cell 2 25, .tmp 3]) (w1 : World) (tmps : Array Value) (cs old : Array Value) (hz : cs.size = 7) (g : Nat) (er : Nat)
    (hrow : w1.heap[g]? = some (.cells old 25 (0, 0))) (R : Ending → World → Prop) (hp : tmps.getD 2 undef = .pointer (some ⟨g, 0, none⟩)) (h3 : tmps.getD 3 undef = .int .i64 (er : Nat))
    (h : R (.returned (.tuple #[.agg cs, .int .i64 (er : Nat)])) (w1.setRow g cs)) :
    bodyPost Tryz.prog fn R .ret { tmps := tmps, defers := [] } (w1.setRow g cs) := by
  have := results_cell_one hres tmps Tryz.prog (w1.setRow g cs) ⟨g, 0, none⟩ (.agg cs) hp (run_loadVar_row _ _ _ _ _ (0, 0) _ (setRow_heap w1 g old cs 25 (0, 0) hrow) Tryz.underlying25 rfl (by rw [Tryz.rcSize, hz]))
  rw [h3] at this
  exact bodyPost_ret this rfl h
theorem RS.new (w : World) : RS (w.alloc (.cells #[.nilIface] 63)) w.heap.size 0 := ⟨_, heap_alloc_new w _, .inl ⟨rfl, rfl⟩⟩
set_option maxRecDepth 100000 in
set_option maxHeartbeats 8000000 in
theorem pdecode_any (s : List UInt8) (w : World) (hg : w.cell? ⟨0, 0, none⟩ = some (.iface 239 (.agg #[.pointer (some ⟨4, 61, none⟩)]))) (hG : M.Gd (M.rdI (kdOf s).2 (s.drop (M.headR (kdOf s).1).length)).1) (hs : s.length ≤ 200000) :
    Calls Tryz.prog 18 #[.string ⟨s.toArray⟩] w fun e w' => (∃ v, e = .returned (.tuple #[rcv (M.decR s).1 v, .int .i64 ((M.decR s).2 : Nat)]) ∧ Ls w' w'.heap.size (M.decR s).1.logs v) ∧ Below w.heap.size w w' := by
  have hgl : 0 < w.heap.size := addr_lt hg
  obtain ⟨g2, hg2⟩ : ∃ g2, w.heap.size = g2 := ⟨_, rfl⟩
  obtain ⟨w0, hw0⟩ : ∃ w0, w.alloc (.cells #[.int .i64 0, .bool false, .int .u64 0, .slice none 0 0, .bool false, .int .u64 0, .int .u64 0] 25) = w0 := ⟨_, rfl⟩
  have hb0 : Below w.heap.size w w0 := by rw [← hw0]; exact (Below.refl _ _).alloc (Nat.le_refl _) _
  have hz0 : w0.heap.size = g2 + 1 := by rw [← hw0, ← hg2]; simp
  have hrow0 : w0.heap[g2]? = some (.cells #[.int .i64 0, .bool false, .int .u64 0, .slice none 0 0, .bool false, .int .u64 0, .int .u64 0] 25 (0, 0)) := by rw [← hw0, ← hg2]; exact heap_alloc_new w _
  obtain ⟨w1, hw1⟩ : ∃ w1, w0.alloc (.cells #[.nilIface] 63) = w1 := ⟨_, rfl⟩
  have hb1 : Below w0.heap.size w0 w1 := by rw [← hw1]; exact (Below.refl _ _).alloc (Nat.le_refl _) _
  have hS1 : RS w1 (g2 + 1) 0 := by rw [← hw1, ← hz0]; exact RS.new w0
  have hrow1 := (hb1.block g2 (by omega)).trans hrow0
  have hbw := hb0.trans (hb1.mono (by omega))
  have hg1 := (hbw.cell (p := ⟨0, 0, none⟩) hgl).trans hg
  have HR := Lib.hid (rreceipt_any (g2 + 1) s w1 hS1 hG hs)
  have hd : M.decR s = if (M.rdRc s).2 = 0 then M.rdRc s else (⟨0, false, 0, [], false, 0, 0⟩, (M.rdRc s).2) := rfl
  rw [hd]
  clear hd
  generalize M.rdRc s = r at *
  obtain ⟨⟨k, st, ga, ls, fu, no, ve⟩, n⟩ := r
  dsimp only at *
  have HW := Lib.hid hw0
  have HW1 := Lib.hid hw1
  have HB := Lib.hid hbw
  have HR1 := Lib.hid hrow1
  have HS1 := Lib.hid hS1
  have HG := Lib.hid hg1
  clear hw0 hw1 hb0 hb1 hrow0 hrow1 hS1 hg1 hG hs hbw hg
  have key : ∀ (w2 : World) (v : Value) (a : Option Addr) (m c : Nat), v = .slice a m c → RS w2 (g2 + 1) n → But (g2 + 1) w1 w2 → Ls w2 w2.heap.size ls v → ∃ w3, w2.alloc (.cells #[.int .i64 k, .bool st, .int .u64 (ga : Nat), v, .bool fu, .int .u64 (no : Nat), .int .u64 (ve : Nat)] 25) = w3 ∧ RS w3 (g2 + 1) n ∧ Below g2 w w3 ∧ w3.heap[g2]? = some (.cells #[.int .i64 0, .bool false, .int .u64 0, .slice none 0 0, .bool false, .int .u64 0, .int .u64 0] 25 (0, 0)) ∧ w3.heap[w2.heap.size]? = some (.cells #[.int .i64 k, .bool st, .int .u64 (ga : Nat), v, .bool fu, .int .u64 (no : Nat), .int .u64 (ve : Nat)] 25 (0, 0)) ∧ Ls w3 w3.heap.size ls v ∧ w3.cell? ⟨0, 0, none⟩ = some (.iface 239 (.agg #[.pointer (some ⟨4, 61, none⟩)])) ∧ w3.heap.size = w2.heap.size + 1 ∧ g2 + 1 < w2.heap.size := by
    intro w2 v a m c hv hs hb hl
    have h2 : Below w2.heap.size w2 (w2.alloc (.cells #[.int .i64 k, .bool st, .int .u64 (ga : Nat), v, .bool fu, .int .u64 (no : Nat), .int .u64 (ve : Nat)] 25)) := (Below.refl _ _).alloc (Nat.le_refl _) _
    have q1 := HS1.out.lt
    have q2 := hb.size
    refine ⟨_, rfl, hs.kept h2, ?_, ?_, heap_alloc_new w2 _, hl.kept h2, ?_, by simp, by omega⟩
    · have := HB.out
      rw [hg2] at this
      exact this.trans (((hb.below (by omega)).mono (by omega)).trans (h2.mono (by omega)))
    · exact (h2.block g2 (by omega)).trans ((hb.block g2 (by omega) (by omega)).trans HR1.out)
    · exact (h2.cell (p := ⟨0, 0, none⟩) (by show 0 < _; omega)).trans ((hb.cell (p := ⟨0, 0, none⟩) (by show 0 < _; omega) (by show 0 ≠ _; omega)).trans HG.out)
  have HK := Lib.hid key
  clear key
  by_cases hn : n = 0
  · subst hn
    rw [if_pos rfl]
    go_enter Tryz.func18, Tryz.ntmps18
    go_wp2_with (first | rw [HW1.out] | rw [HW.out] | rw [hg2] | rw [hz0])
    refine HR.out.mono ?_
    rintro e w2 ⟨⟨v, rfl, L2⟩, s2, q2⟩
    obtain ⟨av, cv, rfl, _, _⟩ := L2.slice
    obtain ⟨w3, hw3, s3, b3, r2, r5, L3, _, z3, lt3⟩ := HK.out w2 _ _ _ _ rfl s2 q2 L2
    have s3z := s3.zero
    have HN := Lib.hid (fun W => numberOf_nil W)
    have HW3 := Lib.hid hw3
    have HB3 := Lib.hid b3
    have HR2 := Lib.hid r2
    have HR5 := Lib.hid r5
    have HL3 := Lib.hid L3
    clear hw3 s3 b3 r2 r5 L3 s2 q2 L2 HK
    go_wp2_with (rw [HW3.out])
    refine (HN.out _).mono ?_
    rintro e w4 ⟨rfl, hb4⟩
    have r2 := (hb4.block g2 (by omega)).trans HR2.out
    have r5 := (hb4.block w2.heap.size (by omega)).trans HR5.out
    obtain ⟨⟨_, z0⟩, ⟨_, z1⟩, ⟨_, z2⟩, ⟨_, z3⟩, ⟨_, z4⟩, ⟨_, z5⟩, ⟨_, z6⟩, y4⟩ := cells_seven r2
    have c0 : w4.cell? ⟨w2.heap.size, 0, none⟩ = some (.int .i64 k) := by simp [World.cell?, r5]
    have c1 : w4.cell? ⟨w2.heap.size, 1, none⟩ = some (.bool st) := by simp [World.cell?, r5]
    have c2 : w4.cell? ⟨w2.heap.size, 2, none⟩ = some (.int .u64 (ga : Nat)) := by simp [World.cell?, r5]
    have c3 : w4.cell? ⟨w2.heap.size, 3, none⟩ = some (.slice av ls.length cv) := by simp [World.cell?, r5]
    have c4 : w4.cell? ⟨w2.heap.size, 4, none⟩ = some (.bool fu) := by simp [World.cell?, r5]
    have c5 : w4.cell? ⟨w2.heap.size, 5, none⟩ = some (.int .u64 (no : Nat)) := by simp [World.cell?, r5]
    have c6 : w4.cell? ⟨w2.heap.size, 6, none⟩ = some (.int .u64 (ve : Nat)) := by simp [World.cell?, r5]
    have HR24 := Lib.hid r2
    have HL4 := Lib.hid (HL3.out.kept hb4)
    have HB4 := Lib.hid (HB3.out.trans (hb4.mono (by omega)))
    clear r2 r5 hb4 HN HB3 HL3 HR2 HR5
    go_wp2_with fail
    rw [set_seven HR24.out]
    refine rcd_row rfl w4 _ #[.int .i64 k, .bool st, .int .u64 (ga : Nat), .slice av ls.length cv, .bool fu, .int .u64 (no : Nat), .int .u64 (ve : Nat)] _ rfl g2 0 HR24.out _ ?_ ?_ ?_
    · rfl
    · rfl
    · refine ⟨⟨_, rfl, ?_⟩, ?_⟩
      · rw [setRow_size]
        exact HL4.out.rowN (NoTxt.rc rfl HR24.out) _
      · rw [hg2]
        exact HB4.out.trans ⟨rfl, rfl, rfl, by rw [setRow_size]; exact Nat.le_refl _, fun i hi => setRow_other _ _ _ _ (by omega)⟩
  · rw [if_neg hn]
    have hn1 : ((n : Int) == 0) = false := by simp [hn]
    have hnx : ¬ (n : Int) = 0 := by omega
    go_enter Tryz.func18, Tryz.ntmps18
    go_wp2_with (first | rw [HW1.out] | rw [HW.out] | rw [hg2] | rw [hz0])
    refine HR.out.mono ?_
    rintro e w2 ⟨⟨v, rfl, L2⟩, s2, q2⟩
    obtain ⟨av, cv, rfl, _, _⟩ := L2.slice
    obtain ⟨w3, hw3, s3, b3, r2, r5, L3, g3, z3, lt3⟩ := HK.out w2 _ _ _ _ rfl s2 q2 L2
    obtain ⟨sm, s3h⟩ := s3.held hn
    have HN := Lib.hid (numberOf_fault sm n w3 g3)
    have HW3 := Lib.hid hw3
    have HB3 := Lib.hid b3
    have HR2 := Lib.hid r2
    clear hw3 s3 b3 r2 r5 L3 s2 q2 L2 HK g3
    go_wp2_with (rw [HW3.out])
    refine (HN.out).mono ?_
    rintro e w4 ⟨rfl, hb4⟩
    have r2 := (hb4.block g2 (by omega)).trans HR2.out
    obtain ⟨⟨_, z0⟩, ⟨_, z1⟩, ⟨_, z2⟩, ⟨_, z3⟩, ⟨_, z4⟩, ⟨_, z5⟩, ⟨_, z6⟩, y4⟩ := cells_seven r2
    have HR24 := Lib.hid r2
    have HB4 := Lib.hid (HB3.out.trans (hb4.mono (by omega)))
    clear r2 hb4 HN HB3 HR2
    go_wp2_with fail
    rw [set_seven HR24.out]
    refine rcd_row rfl w4 _ #[.int .i64 0, .bool false, .int .u64 0, .slice none 0 0, .bool false, .int .u64 0, .int .u64 0] _ rfl g2 n HR24.out _ ?_ ?_ ?_
    · rfl
    · rfl
    · refine ⟨⟨_, rfl, .nil_ (by decide)⟩, ?_⟩
      rw [hg2]
      exact HB4.out.trans ⟨rfl, rfl, rfl, by rw [setRow_size]; exact Nat.le_refl _, fun i hi => setRow_other _ _ _ _ (by omega)⟩
end Go.Proofs.YtihiacbhdcahkaaGreatDoor
namespace Go.Proofs.YtihiacbhdcahkaaGreatDoor
open Go Go.RowKit Go.Lib
namespace M
mutual
theorem sm_form : ∀ (x : It) (d : Nat), formI d x = 0 → (bytesI x).length ≤ 65536 → smI x
  | .mk false b xs, d, h, hz => by
    obtain rfl := (formI_ok h).2 rfl
    have := bytes_len (.mk false b [])
    rw [ownI] at this
    rw [smI]
    exact ⟨by omega, trivial⟩
  | .mk true b xs, d, h, hz => by
    obtain ⟨rfl, _, _, h4⟩ := (formI_ok h).1 rfl
    rw [bytesI, List.length_append] at hz
    rw [smI]
    exact ⟨by simp, sms_form xs (d + 1) h4 (by omega)⟩
theorem sms_form : ∀ (xs : List It) (d : Nat), formIs d xs = 0 → (bytesIs xs).length ≤ 65536 → smIs xs
  | [], _, _, _ => by rw [smIs]; trivial
  | x :: xs, d, h, hz => by
    obtain ⟨h1, h2⟩ := formIs_ok h
    rw [bytesIs, List.length_append] at hz
    rw [smIs]
    exact ⟨sm_form x d h1 (by omega), sms_form xs d h2 (by omega)⟩
end
theorem gd_zero : Gd zeroI := by
  refine ⟨?_, ?_, ?_⟩
  · rw [smI]; exact ⟨by simp, by rw [smIs]; trivial⟩
  · simp [cntIs]
  · simp [formI]
theorem gd_of {x : It} (h : checkI x = 0) (hz : cntI x ≤ 4000) : Gd x := by
  obtain ⟨h1, h2⟩ := checkI_ok.1 h
  have h3 := sm_form x 0 h1 h2
  obtain ⟨l, d, ys⟩ := x
  rw [cntI] at hz
  exact ⟨h3, by omega, h1⟩
theorem gd_rdI (e : Nat) (s : List UInt8) (hs : s.length ≤ 4000) : Gd (rdI e s).1 := by
  unfold rdI
  split
  · by_cases h : (decodeL s).2 = 0
    · obtain ⟨h1, h2⟩ := dec_only h
      have h3 := cnt_le (decodeL s).1 0 (checkI_ok.1 h2).1
      rw [h1] at h3
      exact gd_of h2 (by omega)
    · rw [dec_no h]; exact gd_zero
  · exact gd_zero
theorem rdX_ok {α : Type} {z : α} {f : It → α × Nat} {e : Nat} {x : It} (h : (rdX z f e x).2 = 0) : e = 0 ∧ (f x).2 = 0 ∧ (rdX z f e x).1 = (f x).1 := by
  unfold rdX at h ⊢
  by_cases h0 : e = 0
  · rw [if_pos h0] at h ⊢
    exact ⟨h0, h, rfl⟩
  · rw [if_neg h0] at h
    exact absurd h h0
theorem rdT_ok {f : It → List UInt8 × Nat} {e : Nat} {x : It} (h : (rdT f e x).2 = 0) : e = 0 ∧ (f x).2 = 0 ∧ (rdT f e x).1 = (f x).1 := by
  unfold rdT at h ⊢
  by_cases h0 : e = 0
  · rw [if_pos h0] at h ⊢
    exact ⟨h0, h, rfl⟩
  · rw [if_neg h0] at h
    exact absurd h h0
theorem rdL_ok {least most : Int} {e : Nat} {x : It} (h : (rdL e least most x).2 = 0) : e = 0 ∧ ∃ b, x = .mk true b (rdL e least most x).1 := by
  unfold rdL at h ⊢
  by_cases h0 : e = 0
  · rw [if_pos h0] at h ⊢
    obtain ⟨b, xs, e1, e2⟩ := getList_ok h
    exact ⟨h0, b, by rw [e2]; exact e1⟩
  · rw [if_neg h0] at h
    exact absurd h h0
theorem rdEach_ok {α : Type} {f : Nat → It → α × Nat} (hf : ∀ e x, (f e x).2 = 0 → e = 0) : ∀ {e : Nat} {xs : List It}, (rdEach f e xs).2 = 0 → e = 0 ∧ (∀ x ∈ xs, (f 0 x).2 = 0) ∧ (rdEach f e xs).1 = xs.map fun x => (f 0 x).1
  | e, [], h => ⟨h, by simp, rfl⟩
  | e, x :: xs, h => by
    rw [rdEach] at h ⊢
    obtain ⟨h1, h2, h3⟩ := rdEach_ok hf h
    obtain rfl := hf e x h1
    refine ⟨rfl, ?_, ?_⟩
    · intro y hy
      rcases List.mem_cons.1 hy with rfl | hy
      · exact h1
      · exact h2 y hy
    · rw [List.map_cons]
      exact congrArg (List.cons _) h3
theorem gText_in {least most : Int} {d : List UInt8} (h : (gText least most d).2 = 0) : least ≤ d.length ∧ (d.length : Int) ≤ most := by
  unfold gText at h
  by_cases h1 : within d.length least most ≠ 0
  · rw [if_pos h1] at h; exact absurd h h1
  · have h1 : within d.length least most = 0 := by omega
    unfold within at h1
    split at h1
    · cases h1
    · split at h1
      · cases h1
      · omega
theorem getText_in {least most : Int} {x : It} (h : (getText least most x).2 = 0) : least ≤ (getText least most x).1.length ∧ ((getText least most x).1.length : Int) ≤ most := by
  match x with
  | .mk true _ _ => cases h
  | .mk false d xs =>
    have h : (gText least most d).2 = 0 := h
    have e : (getText least most (.mk false d xs)).1 = d := gText_ok h
    rw [e]
    exact gText_in h
theorem rText_ok {n : Nat} {x : It} (hx : formI 0 x = 0) (h : (rText n x).2 = 0) : textI (rText n x).1 = x ∧ (rText n x).1.length = n := by
  unfold rText at h ⊢
  by_cases h1 : (getText n n x).2 = 0
  · rw [if_pos h1]
    obtain ⟨a, b⟩ := getText_in h1
    exact ⟨text_only hx h1, by show (getText n n x).1.length = n; omega⟩
  · rw [if_neg h1] at h; cases h
theorem rVersion_ok {x : It} (hx : formI 0 x = 0) (h : (rVersion x).2 = 0) : (rVersion x).1 = 1 ∧ textI (ben 1) = x := by
  unfold rVersion at h ⊢
  by_cases h1 : (getNumber x).2 = 0 ∧ (getNumber x).1 ≠ 1
  · rw [if_pos h1] at h; cases h
  · rw [if_neg h1] at h ⊢
    have h2 : (getNumber x).1 = 1 := by
      rcases Nat.lt_or_ge (getNumber x).1 1 with q | q
      · exact absurd ⟨h, by omega⟩ h1
      · rcases Nat.lt_or_ge 1 (getNumber x).1 with r | r
        · exact absurd ⟨h, by omega⟩ h1
        · omega
    refine ⟨h2, ?_⟩
    have := number_only hx h
    rw [h2] at this
    exact this
theorem number_lt (x : It) : (getNumber x).1 < 18446744073709551616 := by
  match x with
  | .mk true _ _ => show (0 : Nat) < _; decide
  | .mk false d _ => exact ub_lt d
theorem rdLog_zero (e : Nat) (x : It) (h : (rdLog e x).2 = 0) : e = 0 := by
  unfold rdLog at h
  by_cases h1 : (rdL e 3 3 x).2 ≠ 0
  · rw [if_pos h1] at h; exact absurd h h1
  · exact (rdL_ok (least := 3) (most := 3) (x := x) (by omega)).1
theorem gd_form {x : It} (h : Gd x) : formI 0 x = 0 := by
  obtain ⟨l, d, ys⟩ := x
  exact h.2.2
theorem log_only {x : It} (hx : Gd x) (h : (rdLog 0 x).2 = 0) : logI (rdLog 0 x).1 = x ∧ noLog (rdLog 0 x).1 = false ∧ longLog (rdLog 0 x).1 = false := by
  unfold rdLog at h ⊢
  by_cases h1 : (rdL 0 3 3 x).2 ≠ 0
  · rw [if_pos h1] at h; exact absurd h h1
  · rw [if_neg h1] at h ⊢
    have h1 : (rdL 0 3 3 x).2 = 0 := by omega
    obtain ⟨_, b, hb⟩ := rdL_ok h1
    obtain ⟨n1, n2⟩ := rdL_len h1
    have hg := rdL_gd (e0 := 0) (least := 3) (most := 3) hx
    have hf := gd_form hx
    generalize (rdL 0 3 3 x).1 = p at *
    subst hb
    obtain ⟨rfl, _, _, _⟩ := (formI_ok hf).1 rfl
    match p, n1, n2 with
    | [x0, x1, x2], _, _ =>
      have f0 := gd_form (hg x0 (by simp))
      have g1 := hg x1 (by simp)
      have f1 := gd_form g1
      have f2 := gd_form (hg x2 (by simp))
      unfold rdParts at h ⊢
      simp only [List.getD_cons_zero, List.getD_cons_succ] at h ⊢
      obtain ⟨e1, d1, d2⟩ := rdT_ok h
      obtain ⟨e2, t1, t2⟩ := rdEach_ok (fun e y hy => (rdT_ok hy).1) e1
      obtain ⟨e3, b1, hb1⟩ := rdL_ok e2
      obtain ⟨_, a1, a2⟩ := rdT_ok e3
      obtain ⟨m1, m2⟩ := rdL_len e2
      rw [d2, t2, a2]
      have hg1 := rdL_gd (e0 := (rdT (rText 20) 0 x0).2) (least := 0) (most := 4) g1
      generalize (rdL (rdT (rText 20) 0 x0).2 0 4 x1).1 = q at *
      subst hb1
      obtain ⟨rfl, _, _, _⟩ := (formI_ok f1).1 rfl
      obtain ⟨A1, A2⟩ := rText_ok (n := 20) f0 a1
      have D1 := text_only f2 d1
      obtain ⟨_, D2⟩ := getText_in d1
      have hq : ∀ y ∈ q, textI (rdT (rText 32) 0 y).1 = y ∧ (rdT (rText 32) 0 y).1.length = 32 := fun y hy => by
        obtain ⟨_, k1, k2⟩ := rdT_ok (t1 y hy)
        rw [k2]
        exact rText_ok (n := 32) (gd_form (hg1 y hy)) k1
      refine ⟨?_, ?_, ?_⟩
      · unfold logI listI textsI
        rw [List.map_map]
        have : q.map (textI ∘ fun y => (rdT (rText 32) 0 y).1) = q := by
          conv => rhs; rw [← List.map_id q]
          exact List.map_congr_left fun y hy => (hq y hy).1
        rw [this]
        show It.mk true [] [textI (rText (20 : Nat) x0).1, _, textI (getText 0 4096 x2).1] = _
        rw [A1, D1]
      · unfold noLog
        rw [Bool.or_eq_false_iff]
        refine ⟨?_, ?_⟩
        · show ((rText (20 : Nat) x0).1.length != 20) = false
          rw [A2]
          rfl
        · rw [List.any_eq_false]
          intro t ht
          obtain ⟨y, hy, rfl⟩ := List.mem_map.1 ht
          rw [(hq y hy).2]
          decide
      · unfold longLog
        rw [Bool.or_eq_false_iff]
        refine ⟨?_, ?_⟩
        · rw [decide_eq_false_iff_not, List.length_map]
          omega
        · rw [decide_eq_false_iff_not]
          have : (getText 0 4096 x2).1.length ≤ 4096 := by omega
          exact Nat.not_lt.2 this
    | [], n1, _ => simp at n1
    | [_], n1, _ => simp at n1
    | [_, _], n1, _ => simp at n1
    | _ :: _ :: _ :: _ :: _, _, n2 => simp at n2; omega
end M
end Go.Proofs.YtihiacbhdcahkaaGreatDoor
namespace Go.Proofs.YtihiacbhdcahkaaGreatDoor
open Go Go.RowKit Go.Lib
namespace M
theorem kdOf_zero {s : List UInt8} (h : (kdOf s).2 = 0) : kdB ((kdOf s).1 : Int) = true ∧ headR ((kdOf s).1 : Int) ++ s.drop (headR ((kdOf s).1 : Int)).length = s := by
  cases s with
  | nil => cases h
  | cons c r =>
    rw [kdOf] at h ⊢
    split at h
    · rename_i h1
      rw [if_pos h1]
      exact ⟨by decide, rfl⟩
    · rename_i h1
      rw [if_neg h1]
      split at h
      · rename_i h2
        rw [if_pos h2]
        refine ⟨?_, ?_⟩
        · unfold kdB
          rcases h2 with q | q | q | q <;> (simp only [q]; decide)
        · unfold headR
          rw [if_neg (by simp only []; omega)]
          simp
      · cases h
theorem zeroE_more {e : Nat} {xs : List It} (h : (rdMore e xs).2 = 0) : e = 0 := by
  match xs with
  | [] => exact h
  | [x] =>
    have h : (rdX 0 getNumber e x).2 = 0 := h
    exact (rdX_ok h).1
  | x :: y :: _ =>
    have h : (rdX 0 rVersion (rdX 0 getNumber e x).2 y).2 = 0 := h
    exact (rdX_ok (rdX_ok h).1).1
theorem logs_only {q : List It} (hq : ∀ y ∈ q, Gd y) (h : ∀ y ∈ q, (rdLog 0 y).2 = 0) : (q.map fun y => (rdLog 0 y).1).map logI = q ∧ (q.map fun y => (rdLog 0 y).1).any noLog = false ∧ (q.map fun y => (rdLog 0 y).1).any longLog = false := by
  refine ⟨?_, ?_, ?_⟩
  · rw [List.map_map]
    conv => rhs; rw [← List.map_id q]
    exact List.map_congr_left fun y hy => (log_only (hq y hy) (h y hy)).1
  · rw [List.any_eq_false]
    intro t ht
    obtain ⟨y, hy, rfl⟩ := List.mem_map.1 ht
    rw [(log_only (hq y hy) (h y hy)).2.1]
    decide
  · rw [List.any_eq_false]
    intro t ht
    obtain ⟨y, hy, rfl⟩ := List.mem_map.1 ht
    rw [(log_only (hq y hy) (h y hy)).2.2]
    decide
theorem rc_only {s : List UInt8} (hs : s.length ≤ 4000) (h : (rdRc s).2 = 0) : bytesR (rdRc s).1 = s ∧ chkR (rdRc s).1 = 0 ∧ (rdRc s).1.gas < 18446744073709551616 ∧ (rdRc s).1.nonce < 18446744073709551616 := by
  unfold rdRc at h ⊢
  simp only at h ⊢
  have hG := gd_rdI (kdOf s).2 (s.drop (headR ((kdOf s).1 : Int)).length) (by rw [List.length_drop]; omega)
  by_cases h1 : (rdL (rdI (kdOf s).2 (s.drop (headR ((kdOf s).1 : Int)).length)).2 3 (mostP (kdOf s).1) (rdI (kdOf s).2 (s.drop (headR ((kdOf s).1 : Int)).length)).1).2 ≠ 0
  · rw [if_pos h1] at h; exact absurd h h1
  · rw [if_neg h1] at h ⊢
    have h1 : (rdL (rdI (kdOf s).2 (s.drop (headR ((kdOf s).1 : Int)).length)).2 3 (mostP (kdOf s).1) (rdI (kdOf s).2 (s.drop (headR ((kdOf s).1 : Int)).length)).1).2 = 0 := by omega
    obtain ⟨e1, b, hb⟩ := rdL_ok h1
    obtain ⟨n1, n2⟩ := rdL_len h1
    have hg := rdL_gd (e0 := (rdI (kdOf s).2 (s.drop (headR ((kdOf s).1 : Int)).length)).2) (least := 3) (most := (mostP (kdOf s).1 : Nat)) hG
    have hf := gd_form hG
    have hk0 : (kdOf s).2 = 0 := by
      unfold rdI at e1
      by_cases q : (kdOf s).2 = 0
      · exact q
      · rw [if_neg q] at e1; exact absurd e1 q
    obtain ⟨k1, k2⟩ := kdOf_zero hk0
    have hown : bytesI (rdI (kdOf s).2 (s.drop (headR ((kdOf s).1 : Int)).length)).1 = s.drop (headR ((kdOf s).1 : Int)).length := by
      unfold rdI at e1 ⊢
      rw [if_pos hk0] at e1 ⊢
      exact (dec_only e1).1
    generalize (rdL (rdI (kdOf s).2 (s.drop (headR ((kdOf s).1 : Int)).length)).2 3 (mostP (kdOf s).1) (rdI (kdOf s).2 (s.drop (headR ((kdOf s).1 : Int)).length)).1).1 = p at *
    rw [hb] at hown hf
    obtain ⟨rfl, _, _, _⟩ := (formI_ok hf).1 rfl
    have hm : mostP (kdOf s).1 = if (kdOf s).1 = 126 then 5 else 3 := rfl
    have fin : ∀ x : Rc, x.kind = ((kdOf s).1 : Nat) → partsR x = p → bytesR x = s := fun x hx hp => by
      unfold bytesR
      rw [hx, hp]
      show headR _ ++ bytesI (.mk true [] p) = s
      rw [hown]
      exact k2
    generalize (kdOf s).1 = k at *
    clear hb hown e1 hk0 k2 hG hf h1
    have i0 : ∀ x, x ∈ p → formI 0 x = 0 := fun x hx => gd_form (hg x hx)
    have m1 : ∀ {e : Nat} {x : It}, Gd x → (rdEach rdLog (rdL e 0 16 x).2 (rdL e 0 16 x).1).2 = 0 → e = 0 ∧ listI ((rdEach rdLog (rdL e 0 16 x).2 (rdL e 0 16 x).1).1.map logI) = x ∧ (rdEach rdLog (rdL e 0 16 x).2 (rdL e 0 16 x).1).1.any noLog = false ∧ (rdEach rdLog (rdL e 0 16 x).2 (rdL e 0 16 x).1).1.any longLog = false ∧ (rdEach rdLog (rdL e 0 16 x).2 (rdL e 0 16 x).1).1.length ≤ 16 := by
      intro e x hx hr
      obtain ⟨a1, a2, a3⟩ := rdEach_ok rdLog_zero hr
      obtain ⟨c1, c, c2⟩ := rdL_ok a1
      have hq := rdL_gd (e0 := e) (least := 0) (most := 16) hx
      have hl := rdL_most (e0 := e) (least := 0) (most := 16) (x := x) (by omega)
      have hx0 := gd_form hx
      rw [a3]
      generalize (rdL e 0 16 x).1 = q at *
      subst c2
      obtain ⟨rfl, _, _, _⟩ := (formI_ok hx0).1 rfl
      obtain ⟨b1, b2, b3⟩ := logs_only hq a2
      refine ⟨c1, ?_, b2, b3, ?_⟩
      · unfold listI
        rw [b1]
      · rw [List.length_map]; omega
    unfold rdRcP at h ⊢
    simp only at h ⊢
    have z := zeroE_more h
    match p, n1, n2, hg, i0, fin with
    | x0 :: x1 :: x2 :: more, n1, n2, hg, i0, fin =>
      simp only [List.getD_cons_zero, List.getD_cons_succ, List.drop_succ_cons, List.drop_zero] at h z ⊢
      obtain ⟨z1, l1, l2, l3, l4⟩ := m1 (hg x2 (by simp)) z
      obtain ⟨z2, g1, g2⟩ := rdX_ok z1
      obtain ⟨_, b1, b2⟩ := rdX_ok z2
      have B := bool_only (i0 x0 (by simp)) b1
      have N := number_only (i0 x1 (by simp)) g1
      generalize (rdEach rdLog (rdL (rdX 0 getNumber (rdX false getBool 0 x0).2 x1).2 0 16 x2).2 (rdL (rdX 0 getNumber (rdX false getBool 0 x0).2 x1).2 0 16 x2).1) = lg at *
      rw [b2, g2]
      have hlong : ∀ (f : Bool) (no ve : Nat), longR ⟨(k : Nat), (getBool x0).1, (getNumber x1).1, lg.1, f, no, ve⟩ = false := fun f no ve => by
        unfold longR
        rw [Bool.or_eq_false_iff]
        exact ⟨by rw [decide_eq_false_iff_not]; show ¬ 16 < lg.1.length; omega, l3⟩
      match more, n2, hg, i0, h, fin with
      | [], n2, hg, i0, h, fin =>
        refine ⟨fin _ rfl ?_, chkR_zero k1 ?_ (hlong _ _ _), number_lt x1, by show (0 : Nat) < _; decide⟩
        · show [boolI (getBool x0).1, textI (ben (getNumber x1).1), listI (lg.1.map logI)] ++ _ = _
          rw [B, N, l1]
          rfl
        · unfold formedR
          simp [l2, rdMore]
      | [x3], n2, hg, i0, h, fin =>
        have hk : k = 126 := by
          rw [hm] at n2
          split at n2
          · assumption
          · simp at n2
        have h : (rdX 0 getNumber lg.2 x3).2 = 0 := h
        obtain ⟨_, o1, o2⟩ := rdX_ok h
        have O := number_only (i0 x3 (by simp)) o1
        refine ⟨fin _ rfl ?_, chkR_zero k1 ?_ (hlong _ _ _), number_lt x1, ?_⟩
        · show [boolI (getBool x0).1, textI (ben (getNumber x1).1), listI (lg.1.map logI)] ++ [textI (ben (rdX 0 getNumber lg.2 x3).1)] = _
          rw [o2, B, N, l1, O]
          rfl
        · subst hk
          unfold formedR
          simp [l2, rdMore]
        · show (rdX 0 getNumber lg.2 x3).1 < _
          rw [o2]
          exact number_lt x3
      | [x3, x4], n2, hg, i0, h, fin =>
        have hk : k = 126 := by
          rw [hm] at n2
          split at n2
          · assumption
          · simp at n2
        have h : (rdX 0 rVersion (rdX 0 getNumber lg.2 x3).2 x4).2 = 0 := h
        obtain ⟨h', v1, v2⟩ := rdX_ok h
        obtain ⟨_, o1, o2⟩ := rdX_ok h'
        have O := number_only (i0 x3 (by simp)) o1
        obtain ⟨V1, V2⟩ := rVersion_ok (i0 x4 (by simp)) v1
        refine ⟨fin _ rfl ?_, chkR_zero k1 ?_ (hlong _ _ _), number_lt x1, ?_⟩
        · have hfo : formR ⟨(k : Nat), (getBool x0).1, (getNumber x1).1, lg.1, true, (rdX 0 getNumber lg.2 x3).1, (rdX 0 rVersion (rdX 0 getNumber lg.2 x3).2 x4).1⟩ = 2 := by
            unfold formR
            rw [v2, V1]
            rfl
          unfold partsR
          show [boolI (getBool x0).1, textI (ben (getNumber x1).1), listI (lg.1.map logI)] ++ [textI (ben (rdX 0 getNumber lg.2 x3).1), textI (ben 1)].take (formR ⟨(k : Nat), (getBool x0).1, (getNumber x1).1, lg.1, true, (rdX 0 getNumber lg.2 x3).1, (rdX 0 rVersion (rdX 0 getNumber lg.2 x3).2 x4).1⟩) = _
          rw [hfo, o2, B, N, l1, O, V2]
          rfl
        · subst hk
          unfold formedR
          simp [l2, rdMore, v2, V1]
        · show (rdX 0 getNumber lg.2 x3).1 < _
          rw [o2]
          exact number_lt x3
      | _ :: _ :: _ :: _, n2, _, _, _, _ =>
        rw [hm] at n2
        simp only [List.length_cons] at n2
        split at n2 <;> omega
    | [], n1, _, _, _, _ => simp at n1
    | [_], n1, _, _, _, _ => simp at n1
    | [_, _], n1, _, _, _, _ => simp at n1
theorem dec_then_enc {s : List UInt8} (hs : s.length ≤ 4000) (h : (decR s).2 = 0) : encR (decR s).1 = (s, 0) ∧ chkR (decR s).1 = 0 ∧ (decR s).1.gas < 18446744073709551616 ∧ (decR s).1.nonce < 18446744073709551616 := by
  unfold decR at h ⊢
  by_cases h0 : (rdRc s).2 = 0
  · rw [if_pos h0]
    obtain ⟨a, b, c, d⟩ := rc_only hs h0
    refine ⟨?_, b, c, d⟩
    unfold encR
    rw [if_pos b, a]
  · rw [if_neg h0] at h
    exact absurd h h0
end M
end Go.Proofs.YtihiacbhdcahkaaGreatDoor
