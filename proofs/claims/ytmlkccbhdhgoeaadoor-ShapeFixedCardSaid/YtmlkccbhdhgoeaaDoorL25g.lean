/- ShapeFixed. -/
import Derived.Test.YtmlkccbhdhgoeaaDoorT14g
import Derived.Test.YtmlkccbhdhgoeaaDoorT21g
import Derived.Test.YtmlkccbhdhgoeaaDoorT7g
namespace Go.Proofs.YtmlkccbhdhgoeaaDoor
open Go Go.RowKit

theorem M.sizeT_in {k n : Int} {ins : List M.Ty} {x : M.Ty} (hc : M.chkT 0 (.mk k n ins) = 0) (hx : x ∈ ins) : M.sizeT x ≤ 2251799813685248 := by
  have h1 := M.chkTs_ok.1 (M.chkT_ok.1 hc).2.2.2 x hx
  have h2 := M.szT_most x 1 h1
  unfold M.sizeT
  split
  · exact Nat.le_trans h2 (by decide)
  · omega
theorem M.sumT_most {c : Nat} : ∀ {ts : List M.Ty}, (∀ x ∈ ts, M.sizeT x ≤ c) → M.sumT ts ≤ ts.length * c
  | [], _ => by simp [M.sumT]
  | t :: ts, h => by
    have g1 := h t (by simp)
    have g2 := M.sumT_most (ts := ts) fun x hx => h x (by simp [hx])
    rw [M.sumT, List.length_cons, Nat.add_mul]
    omega
theorem M.ins_most {k n : Int} {ins : List M.Ty} {d : Nat} (hc : M.chkT d (.mk k n ins) = 0) : ins.length ≤ 16 := by
  obtain ⟨_, h2, _, _⟩ := M.chkT_ok.1 hc
  unfold M.formT at h2
  split at h2
  · simp at h2; simp [h2]
  · split at h2
    · simp at h2; simp [h2]
    · split at h2
      · simp at h2; omega
      · split at h2
        · simp at h2; simp [h2]
        · split at h2
          · simp at h2; omega
          · simp at h2; omega

set_option maxRecDepth 100000 in
set_option maxHeartbeats 16000000 in
theorem sfixed_law (HS : Hid Shapes) (k n : Int) (ts : List M.Ty) (at_ : Option Addr) (ct : Nat) (w : World) (hT : LayT w w.heap.size ts (.slice at_ ts.length ct)) :
    Calls Tryd.prog 6 #[tv k n (.slice at_ ts.length ct)] w fun e w' => e = .returned (.bool true) ∧ Below w.heap.size w w' := by
  have HW := Lib.hid (fun W => sworks HS W)
  have G : Hid (∀ W, Below w.heap.size w W → LayT W W.heap.size ts (.slice at_ ts.length ct)) := Lib.hid fun W h => (hT.from_ h).mono h.size
  have vnil : ∀ W, Vl W W.heap.size 0 [] [] none 0 none 0 := fun W => ⟨by unfold M.In; omega, .nil_ (by decide), .nil_ (by decide)⟩
  have HFew : Hid (∀ W, Below w.heap.size w W → Calls Tryd.prog 9 #[tv k n (.slice at_ ts.length ct), .agg #[.int .u64 0, .int .u64 0, .int .u64 0, .int .u64 0, .slice none 0 0, .slice none 0 0, .int .i64 0]] W fun e w' => FewP e (.mk k n ts) (.mk 0 [] [] 0) ∧ Below W.heap.size W w') := Lib.hid fun W h => by
    have := sfew_any k n ts at_ ct 0 [] [] 0 none 0 none 0 W (G.out W h) (vnil W)
    rw [vv_0] at this
    exact this
  have S1 := Lib.hid (fun W (h : Below w.heap.size w W) (h1 : M.cntT (.mk k n ts) ≤ 60) => HS.out.check k n ts at_ ct W (G.out W h) (by omega))
  have S2 := Lib.hid (fun W (h : Below w.heap.size w W) (h1 : M.cntT (.mk k n ts) ≤ 60) => HS.out.fixed_ k n ts at_ ct W (G.out W h) (by omega))
  have S3 := Lib.hid (fun W (h : Below w.heap.size w W) (h1 : M.cntT (.mk k n ts) ≤ 60) => HS.out.size k n ts at_ ct W (G.out W h) (by omega))
  have hb0 : ∀ o, Below w.heap.size w (w.alloc o) := fun o => (Below.refl _ w).alloc (Nat.le_refl _) o
  clear hT vnil
  go_enter Tryd.func6, Tryd.ntmps6
  go_wp2_with fail
  refine (HW.out _).mono ?_
  rintro e w1 ⟨rfl, hb1⟩
  have B1 := (hb0 _).trans (hb1.mono (by simp))
  have C1 := hb1
  have e1 := (bcell C1).1
  clear hb1
  go_wp2_with fail
  refine (HFew.out _ B1).mono ?_
  rintro e w2 ⟨hq, hb2⟩
  obtain ⟨q, rfl, hfew⟩ := hq.out
  have B2 := B1.trans (hb2.mono B1.size)
  have C2 := C1.trans (hb2.mono C1.size)
  have e2 := (bcell C2).1
  have HQ := Lib.hid hfew
  clear hq hfew e1 hb2
  cases q with
  | false =>
    go_wp2_with fail
    go_ret
    exact ⟨rfl, B2⟩
  | true =>
  have h1 := (HQ.out rfl).1
  have T1 := Lib.hid (fun W h => S1.out W h h1)
  have T2 := Lib.hid (fun W h => S2.out W h h1)
  have T3 := Lib.hid (fun W h => S3.out W h h1)
  have H1 := Lib.hid h1
  clear HQ h1 S1 S2 S3
  go_wp2_with fail
  by_cases hck : M.chkT 0 (.mk k n ts) = 0
  case neg =>
    rw [M.fixedT_none hck] at T2
    rw [M.sizeT_non (M.fixedT_none hck)] at T3
    generalize M.chkT 0 (.mk k n ts) = f at *
    have hf : ((f : Int) == 0) = false := by simp; omega
    refine (T1.out _ B2).mono ?_
    rintro e w3 ⟨rfl, hb3⟩
    have B3 := B2.trans (hb3.mono B2.size)
    have C3 := C2.trans (hb3.mono C2.size)
    have e3 := (bcell C3).1
    clear e2 hb3
    go_wp2_with fail
    refine (T2.out _ B3).mono ?_
    rintro e w4 ⟨rfl, hb4⟩
    have B4 := B3.trans (hb4.mono B3.size)
    have C4 := C3.trans (hb4.mono C3.size)
    have e4 := (bcell C4).1
    clear e3 hb4
    go_wp2_with fail
    refine (T3.out _ B4).mono ?_
    rintro e w5 ⟨rfl, hb5⟩
    have B5 := B4.trans (hb5.mono B4.size)
    have C5 := C4.trans (hb5.mono C4.size)
    have e5 := (bcell C5).1
    clear e4 hb5
    go_wp2_with fail
    go_ret
    exact ⟨by simp, B5⟩
  case pos =>
  rw [hck] at T1
  refine (T1.out _ B2).mono ?_
  rintro e w3 ⟨rfl, hb3⟩
  have B3 := B2.trans (hb3.mono B2.size)
  have C3 := C2.trans (hb3.mono C2.size)
  have e3 := (bcell C3).1
  clear e2 hb3
  have hl16 := M.ins_most hck
  have hboxn : w3.heap[w.heap.size]? = some (.cells #[.int .i64 k, .int .i64 n, .slice at_ ts.length ct] 24 (0, 0)) := (C3.block _ (by simp)).trans (heap_alloc_new w _)
  have hbox : BoxT w3 w.heap.size k n (.slice at_ ts.length ct) := ⟨by simp [World.cell?, hboxn], by simp [World.cell?, hboxn], by simp [World.cell?, hboxn]⟩
  have hz3 : w.heap.size + 1 ≤ w3.heap.size := by simpa using C3.size
  clear C1 C2 C3 e3 hboxn
  go_wp2_with fail
  go_loopw [5, 6, 7] (fun s x i wr => ∃ j : Nat, j ≤ ts.length ∧ i = .int .i64 j ∧ s = .int .i64 (M.sumT (ts.take j) : Nat) ∧ x = .bool ((ts.take j).all M.fixedT) ∧ Below w3.heap.size w3 wr) (fun _ _ i _ => ts.length - (intOf i).toNat)
  case atStart => exact ⟨0, by omega, rfl, rfl, rfl, Below.refl _ _⟩
  case round =>
    obtain ⟨j, hj, rfl, rfl, rfl, hW⟩ := hrel
    have B4 := B3.trans (hW.mono B3.size)
    replace hbox := hbox.from_ hW (by omega)
    have c0 := hbox.c0
    have c1 := hbox.c1
    have c2 := hbox.c2
    have hsz := hW.size
    by_cases hlt : j < ts.length
    · obtain ⟨b, o, k', m', us, au, cu, rfl, hbn, hxk, e0, e1, e2, hLu⟩ := (G.out wr B4).at_ hlt
      have hmem := List.mem_of_getElem? hxk
      have hj9 : j < 16 := by omega
      have hcnt : M.cntT (.mk k' m' us) ≤ 100 := by
        have g1 := M.cntT_part hmem
        have g2 := H1.out
        rw [M.cntT] at g2
        omega
      have U2 := Lib.hid (fun W (h : Below wr.heap.size wr W) => HS.out.fixed_ k' m' us au cu W ((hLu.from_ h).mono h.size) hcnt)
      have U3 := Lib.hid (fun W (h : Below wr.heap.size wr W) => HS.out.size k' m' us au cu W ((hLu.from_ h).mono h.size) hcnt)
      have hsum : M.sumT (ts.take j) ≤ 36028797018963968 := by
        have := M.sumT_most (ts := ts.take j) (c := 2251799813685248) fun x hx => M.sizeT_in hck (List.mem_of_mem_take hx)
        rw [List.length_take] at this
        have : min j ts.length * 2251799813685248 ≤ 16 * 2251799813685248 := Nat.mul_le_mul_right _ (by omega)
        omega
      have hone := M.sizeT_in hck hmem
      have N1 := Lib.hid (M.sumT_next hxk)
      have N2 := Lib.hid (M.all_next (p := M.fixedT) hxk)
      generalize M.sumT (ts.take j) = s at *
      generalize (ts.take j).all M.fixedT = q at *
      generalize M.sizeT (.mk k' m' us) = z at *
      generalize M.fixedT (.mk k' m' us) = f at *
      clear hLu hxk hmem hcnt
      go_wp2_with fail
      refine (U3.out _ (Below.refl _ _)).mono ?_
      rintro e w5 ⟨rfl, hb5⟩
      have i0 := (hb5.cell (p := ⟨b, o + j * 3, none⟩) (by show b < _; omega)).trans e0
      have i1 := (hb5.cell (p := ⟨b, o + j * 3 + 1, none⟩) (by show b < _; omega)).trans e1
      have i2 := (hb5.cell (p := ⟨b, o + j * 3 + 2, none⟩) (by show b < _; omega)).trans e2
      have d2 := (hb5.cell (p := ⟨w.heap.size, 2, none⟩) (by show w.heap.size < _; omega)).trans c2
      cases q with
      | false =>
        go_wp2_with fail
        go_roundw
        case rel => exact ⟨j + 1, by omega, by simp, by rw [N1.out]; simp, by rw [N2.out]; simp, hW.trans (hb5.mono hsz)⟩
        case measure => simp [intOf]; omega
      | true =>
        go_wp2_with fail
        refine (U2.out _ hb5).mono ?_
        rintro e w6 ⟨rfl, hb6⟩
        go_wp2_with fail
        go_roundw
        case rel => exact ⟨j + 1, by omega, by simp, by rw [N1.out]; simp, by rw [N2.out]; simp, hW.trans ((hb5.trans (hb6.mono hb5.size)).mono hsz)⟩
        case measure => simp [intOf]; omega
    · obtain rfl : j = ts.length := by omega
      rw [List.take_length]
      have hsum := M.sumT_most (ts := ts) (c := 2251799813685248) fun x hx => M.sizeT_in hck hx
      by_cases hk : k = 4 ∨ k = 6 ∨ k = 8
      · rw [M.fixedT_kind hk] at T2
        rw [M.sizeT_non (M.fixedT_kind hk)] at T3
        clear hsum
        generalize ts.all M.fixedT = q at *
        generalize M.sumT ts = s at *
        rcases hk with hk | hk | hk <;> subst hk <;>
        (go_wp2_with fail
         refine (T2.out _ B4).mono ?_
         rintro e w5 ⟨rfl, hb5⟩
         have B5 := B4.trans (hb5.mono B4.size)
         have hbox5 := hbox.from_ hb5 (by omega)
         have f0 := hbox5.c0
         have f1 := hbox5.c1
         have f2 := hbox5.c2
         go_wp2_with fail
         refine (T3.out _ B5).mono ?_
         rintro e w6 ⟨rfl, hb6⟩
         have B6 := B5.trans (hb6.mono B5.size)
         go_wp2_with fail
         go_ret
         exact ⟨rfl, B6⟩)
      · have b4 : (k == 4) = false := by simp; omega
        have b6 : (k == 6) = false := by simp; omega
        have b8 : (k == 8) = false := by simp; omega
        cases hall : ts.all M.fixedT with
        | false =>
          have hf : M.fixedT (.mk k n ts) = false := by rw [M.fixedT_parts hck hk]; exact hall
          rw [hf] at T2
          rw [M.sizeT_non hf] at T3
          clear hsum hf hall
          generalize M.sumT ts = s at *
          go_wp2_with fail
          refine (T2.out _ B4).mono ?_
          rintro e w5 ⟨rfl, hb5⟩
          have B5 := B4.trans (hb5.mono B4.size)
          have hbox5 := hbox.from_ hb5 (by omega)
          have f0 := hbox5.c0
          have f1 := hbox5.c1
          have f2 := hbox5.c2
          go_wp2_with fail
          refine (T3.out _ B5).mono ?_
          rintro e w6 ⟨rfl, hb6⟩
          have B6 := B5.trans (hb6.mono B5.size)
          go_wp2_with fail
          go_ret
          exact ⟨rfl, B6⟩
        | true =>
          obtain ⟨hf, hpos, hsz2⟩ := M.size_parts hck hk hall
          rw [hf] at T2
          obtain ⟨hn0, hn5, _⟩ := M.form_range hck
          obtain ⟨nn, rfl⟩ : ∃ nn : Nat, n = nn := ⟨n.toNat, by omega⟩
          simp only [Int.toNat_natCast] at hsz2
          generalize M.sumT ts = s at *
          generalize M.sizeT (.mk k nn ts) = z at *
          have hpos' : (1 : Int) ≤ (z : Int) := by omega
          by_cases h3 : k = 3
          · subst h3
            rw [if_pos rfl] at hsz2
            have hlen : ts.length = 1 := by
              obtain ⟨_, h2, _, _⟩ := M.chkT_ok.1 hck
              simp [M.formT] at h2
              omega
            have hs2 : s * nn ≤ 2251799813685248 * 512 := Nat.mul_le_mul (by rw [hlen] at hsum; omega) (by omega)
            have hmul : ((s * nn : Nat) : Int) = (s : Int) * (nn : Int) := Int.natCast_mul s nn
            have hwr := wrap_small (x := (s : Int) * (nn : Int)) (by rw [← hmul]; omega) (by rw [← hmul]; omega)
            have hzs : (z : Int) = (s : Int) * (nn : Int) := by
              rcases hsz2 with h | h
              · omega
              · rw [h]; exact hmul
            have hl : ((ts.length : Int) == 0) = false := by rw [hlen]; rfl
            have hb1 : -9223372036854775808 ≤ (s : Int) * (nn : Int) := by rw [← hmul]; omega
            have hb2 : (s : Int) * (nn : Int) ≤ 9223372036854775807 := by rw [← hmul]; omega
            clear hmul hs2 hsum hsz2 hlt hj hl16 hlen
            go_wp2_with fail
            refine (T2.out _ B4).mono ?_
            rintro e w5 ⟨rfl, hb5⟩
            have B5 := B4.trans (hb5.mono B4.size)
            have hbox5 := hbox.from_ hb5 (by omega)
            have f0 := hbox5.c0
            have f1 := hbox5.c1
            have f2 := hbox5.c2
            go_wp2_with fail
            refine (T3.out _ B5).mono ?_
            rintro e w6 ⟨rfl, hb6⟩
            have B6 := B5.trans (hb6.mono B5.size)
            have hbox6 := hbox5.from_ hb6 (by have := hb5.size; omega)
            have g0 := hbox6.c0
            have g1 := hbox6.c1
            have g2 := hbox6.c2
            clear f0 f1 f2
            go_wp2_with fail
            refine (T3.out _ B6).mono ?_
            rintro e w7 ⟨rfl, hb7⟩
            have B7 := B6.trans (hb7.mono B6.size)
            go_wp2_with fail
            go_ret
            exact ⟨by simp, B7⟩
          · have b3 : (k == 3) = false := by simpa using h3
            rw [if_neg h3] at hsz2
            by_cases hl : ts.length = 0
            · skip
              have hl0 : ((ts.length : Int) == 0) = true := by rw [hl]; rfl
              clear hsum hsz2 hlt hj hl16 hl
              go_wp2_with fail
              refine (T2.out _ B4).mono ?_
              rintro e w5 ⟨rfl, hb5⟩
              have B5 := B4.trans (hb5.mono B4.size)
              have hbox5 := hbox.from_ hb5 (by omega)
              have f0 := hbox5.c0
              have f1 := hbox5.c1
              have f2 := hbox5.c2
              go_wp2_with fail
              refine (T3.out _ B5).mono ?_
              rintro e w6 ⟨rfl, hb6⟩
              have B6 := B5.trans (hb6.mono B5.size)
              have hbox6 := hbox5.from_ hb6 (by have := hb5.size; omega)
              have g0 := hbox6.c0
              have g1 := hbox6.c1
              have g2 := hbox6.c2
              clear f0 f1 f2
              go_wp2_with fail
              go_ret
              exact ⟨by simp, B6⟩
            · have hzs : z = s := by omega
              have hl0 : ((ts.length : Int) == 0) = false := by rw [beq_eq_false_iff_ne]; omega
              subst hzs
              clear hsum hsz2 hlt hj hl16
              go_wp2_with fail
              refine (T2.out _ B4).mono ?_
              rintro e w5 ⟨rfl, hb5⟩
              have B5 := B4.trans (hb5.mono B4.size)
              have hbox5 := hbox.from_ hb5 (by omega)
              have f0 := hbox5.c0
              have f1 := hbox5.c1
              have f2 := hbox5.c2
              go_wp2_with fail
              refine (T3.out _ B5).mono ?_
              rintro e w6 ⟨rfl, hb6⟩
              have B6 := B5.trans (hb6.mono B5.size)
              have hbox6 := hbox5.from_ hb6 (by have := hb5.size; omega)
              have g0 := hbox6.c0
              have g1 := hbox6.c1
              have g2 := hbox6.c2
              clear f0 f1 f2
              go_wp2_with fail
              refine (T3.out _ B6).mono ?_
              rintro e w7 ⟨rfl, hb7⟩
              have B7 := B6.trans (hb7.mono B6.size)
              go_wp2_with fail
              go_ret
              exact ⟨by simp, B7⟩
end Go.Proofs.YtmlkccbhdhgoeaaDoor
