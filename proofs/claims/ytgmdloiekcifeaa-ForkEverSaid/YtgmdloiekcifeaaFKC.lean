/- ForkEver. -/
import Derived.Test.YtgmdloiekcifeaaFKA
namespace Go.Proofs.Ytgmdloiekcifeaa
open Go Go.RowKit Go.Lib

/-- What is told of the forks that are ever active. -/
theorem M.evn_last {xs : List Int} (h : M.srt xs = true) (h1 : 1 ≤ xs.length) : M.evn xs xs.length = M.evn xs (xs.length - 1) ++ [((xs.length - 1 : Nat) : Int)] := by
  obtain ⟨m, hm⟩ : ∃ m, xs.length = m + 1 := ⟨xs.length - 1, by omega⟩
  rw [hm, M.evn_succ, if_pos, Nat.add_sub_cancel]
  have h2 := M.beg_self h (i := m) (by omega)
  have := M.beg_le xs (M.gi xs m)
  omega
theorem M.evn_at {xs : List Int} {i : Nat} (hi : i < (M.evn xs xs.length).length) : ∃ f : Nat, M.gi (M.evn xs xs.length) i = f ∧ f < xs.length ∧ M.beg xs (M.gi xs f) = f + 1 := by
  have hm : M.gi (M.evn xs xs.length) i ∈ M.evn xs xs.length := by rw [M.gi_get hi]; exact List.getElem_mem _
  exact M.evn_mem hm
theorem M.evn_lt {xs : List Int} {i j : Nat} (hij : i < j) (hj : j < (M.evn xs xs.length).length) : M.gi (M.evn xs xs.length) i < M.gi (M.evn xs xs.length) j := by
  rw [M.gi_get hj, M.gi_get (by omega)]
  exact List.pairwise_iff_getElem.1 (M.evn_up xs xs.length) i j (by omega) hj hij
/-- The one that is active at a time is among them. -/
theorem M.evn_met {xs : List Int} {t : Int} (h : M.actE xs t = 0) : M.actV xs t ∈ M.evn xs xs.length := by
  rcases M.actE_cases xs t with ⟨_, h2, h3, h4⟩ | ⟨h1, _⟩
  · obtain ⟨l1, l6, hs⟩ := M.chkE_zero h2
    have hle := M.beg_le xs t
    obtain ⟨q, hq⟩ : ∃ q, M.beg xs t = q + 1 := ⟨M.beg xs t - 1, by omega⟩
    rw [h4, hq]
    refine M.evn_in (by omega) ?_
    have h5 := M.beg_self hs (i := q) (by omega)
    have h6 : M.gi xs q ≤ t := by
      have := M.beg_iff hs t (i := q) (by omega)
      omega
    have := M.beg_mono xs h6
    show M.beg xs (M.gi xs (q + 1 - 1)) = q + 1 - 1 + 1
    rw [Nat.add_sub_cancel]
    omega
  · exact absurd h h1
/-- Is what is looked for among the first ones? -/
def M.among (L : List Int) (A : Int) (j : Nat) : Bool := (L.take j).any fun x => A == x
theorem M.among_succ {L : List Int} {A : Int} {j : Nat} (h : j < L.length) : M.among L A (j + 1) = (M.among L A j || (A == M.gi L j)) := by
  unfold M.among
  rw [List.take_add_one, M.gi_some h]
  simp
theorem M.among_all {L : List Int} {A : Int} (h : A ∈ L) : M.among L A L.length = true := by
  unfold M.among
  rw [List.take_length, List.any_eq_true]
  exact ⟨A, h, by simp⟩

set_option maxRecDepth 100000 in
set_option maxHeartbeats 8000000 in
theorem fever_law (xs : List Int) (a : Option Addr) (cap : Nat) (t : Int) (w : World) (hN : Ns w w.heap.size xs (.slice a xs.length cap)) :
    Calls Try.prog 6 #[sch (.slice a xs.length cap), .int .u64 t] w fun e w' => e = .returned (.bool true) ∧ Below w.heap.size w w' := by
  have mixed : Try.prog.follows .mixedOrders = true := by kernel_rfl
  have HW := Lib.hid works12
  obtain ⟨w0, hw0⟩ : ∃ w0, w.alloc (.cells #[.slice a xs.length cap] 24) = w0 := ⟨_, rfl⟩
  have hsz : w0.heap.size = w.heap.size + 1 := by rw [← hw0]; simp
  have hb0 : Below w.heap.size w w0 := by rw [← hw0]; (repeat (first | exact Below.refl _ _ | refine Below.drew ?_ | refine Below.alloc ?_ (by first | omega | (simp; omega) | simp) _ | refine Below.setCell ?_ (by first | omega | (simp; omega) | simp) _))
  have hc0 : w0.cell? ⟨w.heap.size, 0, none⟩ = some (.slice a xs.length cap) := by rw [← hw0, World.cell?_alloc_at _ _ _ _ (by simp)]; rfl
  have HW0 := Lib.hid hw0
  have HB := Lib.hid hb0
  have HC0 := Lib.hid (fun W (h : Below w0.heap.size w0 W) => (h.cell (p := ⟨w.heap.size, 0, none⟩) (by rw [hsz]; show w.heap.size < _; omega)).trans hc0)
  have hN0 : ∀ W, Below w0.heap.size w0 W → Ns W W.heap.size xs (.slice a xs.length cap) := fun W h => (hN.from_ (hb0.trans (h.mono hb0.size))).mono (hb0.trans (h.mono hb0.size)).size
  have GK := Lib.hid (fun W (h : Below w0.heap.size w0 W) => fcheck_any xs a cap W (hN0 W h))
  have GA := Lib.hid (fun W t (h : Below w0.heap.size w0 W) => active_any xs a cap t W (hN0 W h))
  have GF := Lib.hid (fun W f (h : Below w0.heap.size w0 W) => from_any xs a cap f W (hN0 W h))
  have HE := Lib.hid (fun W (h : Below w0.heap.size w0 W) => ever_any xs a cap W (hN0 W h))
  by_cases hE : M.chkE xs = 0
  · obtain ⟨h1, h6, hs⟩ := M.chkE_zero hE
    obtain ⟨b, o, rfl, hb, hc⟩ := hN.cells h1
    rw [hE] at GK
    rw [show M.evr xs = M.evn xs xs.length by unfold M.evr; rw [if_pos hE]] at HE
    have HLAST := Lib.hid (M.evn_last hs h1)
    have hLn := M.evn_len xs xs.length
    have hL1 : 1 ≤ (M.evn xs xs.length).length := by rw [HLAST.out]; simp
    have HLL : Hid (M.gi (M.evn xs xs.length) ((M.evn xs xs.length).length - 1) = ((xs.length - 1 : Nat) : Int)) := by
      show _ = _
      rw [HLAST.out]
      unfold M.gi
      rw [List.getD_eq_getElem?_getD]
      simp
    have HME := Lib.hid (fun h => M.evn_met (xs := xs) (t := t) h)
    have HAT : Hid (∀ j, j < (M.evn xs xs.length).length → ∃ f : Nat, M.gi (M.evn xs xs.length) j = f ∧ M.frmV xs f = M.gi xs f ∧ M.frmE xs f = 0 ∧ M.actV xs (M.gi xs f) = f ∧ M.actE xs (M.gi xs f) = 0) := fun j hj => by
      obtain ⟨f, e1, e2, e3⟩ := M.evn_at hj
      refine ⟨f, e1, ?_, ?_, ?_, ?_⟩
      · unfold M.frmV; rw [if_pos hE, if_neg (by omega), Int.toNat_natCast]
      · unfold M.frmE; rw [if_pos hE, if_neg (by omega)]
      · unfold M.actV; rw [if_pos hE, e3]; rfl
      · unfold M.actE; rw [if_pos hE, e3, if_neg (by omega)]
    have HUP := Lib.hid (fun i j (h : i < j) hj => M.evn_lt (xs := xs) h hj)
    obtain ⟨A, hA⟩ : ∃ A, M.actV xs t = A := ⟨_, rfl⟩
    obtain ⟨E, hEE⟩ : ∃ E, M.actE xs t = E := ⟨_, rfl⟩
    have GAT := Lib.hid (fun W h => GA.out W t h)
    rw [hA, hEE] at GAT
    rw [hA, hEE] at HME
    have hcx : (M.evn xs xs.length).length ≤ 6 := by omega
    clear hN hN0 hw0 hc0 hb0 hE hs hb hc hA hEE HLAST
    generalize M.evn xs xs.length = L at *
    obtain ⟨n, hn⟩ : ∃ n, L.length = n + 1 := ⟨L.length - 1, by omega⟩
    obtain ⟨m, hm⟩ : ∃ m, xs.length = m + 1 := ⟨xs.length - 1, by omega⟩
    rw [hn, hm, Nat.add_sub_cancel, Nat.add_sub_cancel] at HLL
    rw [hn] at HAT HUP hcx
    simp only [hm] at GAT GF GK GA HE HC0 HW0
    have hnm : n ≤ m := by omega
    have hn5 : n ≤ 5 := by omega
    have hm5 : m ≤ 5 := by omega
    rw [hm]
    have HN := Lib.hid hn
    clear hn hm hLn hL1 h1 h6 hcx
    go_enter Try.func6, Try.ntmps6
    go_wp2_with fail
    rw [HW0.out]
    refine (HW.out _).mono ?_
    rintro e w1 ⟨rfl, B1⟩
    have c1 := HC0.out _ B1
    go_wp2_with fail
    refine (HE.out _ B1).mono ?_
    rintro e w2 ⟨v, rfl, hv, hb2⟩
    have B2 := B1.trans (hb2.mono B1.size)
    obtain ⟨va, vc, hveq⟩ := hv.slice
    rw [HN.out] at hveq
    subst hveq
    obtain ⟨lb, lo, rfl, hlb, hlc⟩ := hv.cells (by rw [HN.out]; omega)
    rw [HN.out] at hlc
    have HLC := Lib.hid (fun W (h : Below w2.heap.size w2 W) (i : Nat) (hi : i < n + 1) => (h.cell (p := ⟨lb, lo + i, none⟩) hlb).trans (hlc i hi))
    have H0 := Lib.hid (fun W (h : Below w2.heap.size w2 W) => B2.trans (h.mono B2.size))
    have HC2 := Lib.hid (fun W (h : Below w2.heap.size w2 W) => HC0.out W (B2.trans (h.mono B2.size)))
    have B22 : Below w2.heap.size w2 w2 := Below.refl _ _
    have c2 := HC2.out _ B22
    clear c1 hb2 hv hlb hlc
    go_wp2_with fail
    refine (GK.out _ B2).mono ?_
    rintro e w4 ⟨rfl, B4⟩
    have c4 := HC2.out _ B4
    have cl := HLC.out _ B4 n (Nat.lt_succ_self n)
    rw [HLL.out] at cl
    have hA1 : ¬ ((n : Int) + 1 < 1) := by omega
    have hA2 : ¬ (m < n) := by omega
    have hwn : IntKind.i64.wrap (n : Int) = (n : Int) := by rw [IntKind.wrap_i64]; omega
    have hwm : IntKind.i64.wrap (m : Int) = (m : Int) := by rw [IntKind.wrap_i64]; omega
    go_wp2_with fail
    have hA3 : ¬ ((n : Int) + 1 < 1) := by omega
    have hA4 : decide ((n : Int) + 1 < 1) = false := decide_eq_false hA3
    go_quiet (fail)
    have B5 : Below w2.heap.size w2 (w4.drewN nq) := ⟨B4.os, B4.tape, B4.output, B4.size, B4.block⟩
    go_wp2_with fail
    refine (GAT.out _ (B2.trans (B5.mono B2.size))).mono ?_
    rintro e w6 ⟨rfl, hb6⟩
    have B6 := B5.trans (hb6.mono B5.size)
    clear hb6 c4 c2 cl B4 B5 hA1 hA2 hA3 hA4
    go_wp2_with fail
    go_loopw [9, 10] (fun mt i wr => ∃ j : Nat, j ≤ n + 1 ∧ i = .int .i64 (j : Nat) ∧ mt = .bool ((E != 0) || M.among L A j) ∧ Below w2.heap.size w2 wr) (fun _ i _ => n + 1 - (RowKit.intOf i).toNat)
    case atStart => exact ⟨0, Nat.zero_le _, rfl, by simp [M.among], B6⟩
    case round =>
      clear B6 hwn hwm
      obtain ⟨j, hj, rfl, rfl, hW⟩ := hrel
      by_cases hlt : j < n + 1
      · obtain ⟨f, hgx, q1, q2, q3, q4⟩ := HAT.out j hlt
        have HFX := Lib.hid (fun X (h : Below w2.heap.size w2 X) => GF.out X f (H0.out X h))
        have HAX := Lib.hid (fun X (h : Below w2.heap.size w2 X) => GA.out X (M.gi xs f) (H0.out X h))
        rw [q1, q2] at HFX
        rw [q3, q4] at HAX
        have HSU := Lib.hid (M.among_succ (A := A) (show j < L.length by rw [HN.out]; exact hlt))
        rw [hgx] at HSU
        have HUQ : Hid (∀ q, j = q + 1 → ¬ ((f : Int) ≤ M.gi L q)) := fun q hq h => by
          have := HUP.out q j (by omega) hlt
          rw [hgx] at this
          omega
        clear q1 q2 q3 q4
        have HJ := Lib.hid hlt
        have hjz : (j : Int) < (n : Int) + 1 := by omega
        have hj5 : j ≤ 5 := by omega
        generalize M.gi xs f = gf at *
        generalize hmt : ((E != 0) || M.among L A j) = mt at *
        have HMT := Lib.hid hmt
        clear hmt hj
        have c0 := HC2.out _ hW
        go_wp2_with fail
        clear c0
        refine wp_region_held (S := fun Y => Below w2.heap.size w2 Y) mixed ?_
        have hS0 : Below w2.heap.size w2 wr.drew := Below.drew hW
        rw [show Array.replicate (Array.size _) false = #[false, false, false, false, false, false, false, false, false, false, false] from rfl, show Array.size (α := Oper) _ = 11 from rfl]
        refine wpAnyH_take (i := 0) (v := .agg #[.slice (some ⟨b, o, none⟩) (m + 1) cap]) rfl (by kernel_rfl) (by kernel_rfl) (by kernel_rfl) (fun _ _ _ h => h) (Or.inl ⟨by rfl, ?_⟩) hS0 ?_
        · intro Y hY
          have c0 := HC2.out _ hY
          go_simp
        simp only [Act.put, List.getElem_toArray, List.getElem_cons_zero, List.setIfInBounds_toArray, List.set_cons_zero, List.set_cons_succ]
        refine wpAnyH_take (i := 1) (v := .slice (some ⟨lb, lo, none⟩) (n + 1) vc) rfl (by kernel_rfl) (by kernel_rfl) (by kernel_rfl) (fun _ _ _ h => h) (Or.inl ⟨by rfl, ?_⟩) hS0 ?_
        · intro Y hY
          skip
          go_simp
        simp only [Act.put, List.getElem_toArray, List.getElem_cons_succ, List.getElem_cons_zero, List.setIfInBounds_toArray, List.set_cons_zero, List.set_cons_succ]
        refine wpAnyH_take (i := 2) (v := .int .i64 (j : Nat)) rfl (by kernel_rfl) (by kernel_rfl) (by kernel_rfl) (fun _ _ _ h => h) (Or.inl ⟨by rfl, ?_⟩) hS0 ?_
        · intro Y hY
          skip
          go_simp
        simp only [Act.put, List.getElem_toArray, List.getElem_cons_succ, List.getElem_cons_zero, List.setIfInBounds_toArray, List.set_cons_zero, List.set_cons_succ]
        refine wpAnyH_take (i := 3) (v := .pointer (some ⟨lb, lo + j, none⟩)) rfl (by kernel_rfl) (by kernel_rfl) (by kernel_rfl) (fun _ _ _ h => h) (Or.inl ⟨by rfl, ?_⟩) hS0 ?_
        · intro Y hY
          skip
          go_simp
          try (intro hh; exfalso; omega)
        simp only [Act.put, List.getElem_toArray, List.getElem_cons_succ, List.getElem_cons_zero, List.setIfInBounds_toArray, List.set_cons_zero, List.set_cons_succ]
        refine wpAnyH_take (i := 4) (v := .int .i64 (f : Nat)) rfl (by kernel_rfl) (by kernel_rfl) (by kernel_rfl) (fun _ _ _ h => h) (Or.inl ⟨by rfl, ?_⟩) hS0 ?_
        · intro Y hY
          have c1 := HLC.out _ hY j hlt; rw [hgx] at c1
          go_simp
        simp only [Act.put, List.getElem_toArray, List.getElem_cons_succ, List.getElem_cons_zero, List.setIfInBounds_toArray, List.set_cons_zero, List.set_cons_succ]
        refine wpAnyH_ready (rs := [5]) (by kernel_rfl) (by simp) ?_
        refine AllReadyH.cons rfl (fun K hK => ?_) AllReadyH.nil
        go_simp
        refine (HFX.out _ hS0).mono ?_
        rintro e w3 ⟨rfl, hb3⟩
        have hS3 : Below w2.heap.size w2 w3 := hS0.trans (Below.mono hb3 hS0.size)
        try go_wp2_with fail
        refine hK.out _ _ hS3 (fun _ => ?_)
        clear hK K
        simp only [List.setIfInBounds_toArray, List.set_cons_zero, List.set_cons_succ]
        refine wpAnyH_take (i := 6) (v := .tuple #[.int .u64 (gf), .int .i64 0]) rfl (by kernel_rfl) (by kernel_rfl) (by kernel_rfl) (fun _ _ _ h => h) (Or.inl ⟨by rfl, ?_⟩) hS3 ?_
        · intro Y hY
          skip
          go_simp
        simp only [Act.put, List.getElem_toArray, List.getElem_cons_succ, List.getElem_cons_zero, List.setIfInBounds_toArray, List.set_cons_zero, List.set_cons_succ]
        refine wpAnyH_take (i := 7) (v := .int .u64 (gf)) rfl (by kernel_rfl) (by kernel_rfl) (by kernel_rfl) (fun _ _ _ h => h) (Or.inl ⟨by rfl, ?_⟩) hS3 ?_
        · intro Y hY
          skip
          go_simp
        simp only [Act.put, List.getElem_toArray, List.getElem_cons_succ, List.getElem_cons_zero, List.setIfInBounds_toArray, List.set_cons_zero, List.set_cons_succ]
        refine wpAnyH_take (i := 8) (v := .int .i64 0) rfl (by kernel_rfl) (by kernel_rfl) (by kernel_rfl) (fun _ _ _ h => h) (Or.inl ⟨by rfl, ?_⟩) hS3 ?_
        · intro Y hY
          skip
          go_simp
        simp only [Act.put, List.getElem_toArray, List.getElem_cons_succ, List.getElem_cons_zero, List.setIfInBounds_toArray, List.set_cons_zero, List.set_cons_succ]
        refine wpAnyH_take (i := 9) (v := .int .u64 (gf)) rfl (by kernel_rfl) (by kernel_rfl) (by kernel_rfl) (fun _ _ _ h => h) (Or.inl ⟨by rfl, ?_⟩) hS3 ?_
        · intro Y hY
          skip
          go_simp
        simp only [Act.put, List.getElem_toArray, List.getElem_cons_succ, List.getElem_cons_zero, List.setIfInBounds_toArray, List.set_cons_zero, List.set_cons_succ]
        refine wpAnyH_take (i := 10) (v := .int .i64 0) rfl (by kernel_rfl) (by kernel_rfl) (by kernel_rfl) (fun _ _ _ h => h) (Or.inl ⟨by rfl, ?_⟩) hS3 ?_
        · intro Y hY
          skip
          go_simp
        simp only [Act.put, List.getElem_toArray, List.getElem_cons_succ, List.getElem_cons_zero, List.setIfInBounds_toArray, List.set_cons_zero, List.set_cons_succ]
        refine wpAnyH_done (by kernel_rfl) ?_ _
        have c3 := HC2.out _ hS3
        go_wp2_with fail
        refine (HAX.out _ hS3).mono ?_
        rintro e w5 ⟨rfl, hb5⟩
        have hS5 := hS3.trans (hb5.mono hS3.size)
        clear c3 hb5 hb3
        have c1 := HLC.out _ hS5 j HJ.out
        rw [hgx] at c1
        have HGX := Lib.hid hgx
        clear hgx
        have hff : ((f : Int) != (f : Int)) = false := by simp
        have HEND : Hid (∀ W, Below w2.heap.size w2 W → (∃ j' : Nat, j' ≤ n + 1 ∧ Value.int .i64 ((j : Int) + 1) = .int .i64 (j' : Nat) ∧ Value.bool (mt || (A == (f : Int))) = .bool ((E != 0) || M.among L A j') ∧ Below w2.heap.size w2 W)) := fun W h => ⟨j + 1, HJ.out, by simp, by rw [HSU.out, ← Bool.or_assoc, HMT.out], h⟩
        by_cases h0 : j = 0
        · subst h0
          rw [Nat.add_zero] at c1
          go_wp2_with fail
          go_quiet (fail)
          cases mt with
          | true =>
            go_wp2_with fail
            exact ⟨by simpa using HEND.out (w5.drewN nq) ⟨hS5.os, hS5.tape, hS5.output, hS5.size, hS5.block⟩, by have := HJ.out; simp [RowKit.intOf]; try omega⟩
          | false =>
            go_wp2_with fail
            exact ⟨by simpa using HEND.out (w5.drewN nq) ⟨hS5.os, hS5.tape, hS5.output, hS5.size, hS5.block⟩, by have := HJ.out; simp [RowKit.intOf]; try omega⟩
        · obtain ⟨q, rfl⟩ : ∃ q, j = q + 1 := ⟨j - 1, by omega⟩
          have c2 := HLC.out _ hS5 q (by omega)
          have hle := HUQ.out q rfl
          generalize M.gi L q = gq at *
          go_wp2_with fail
          go_quiet (fail)
          cases mt with
          | true =>
            go_wp2_with fail
            exact ⟨by simpa using HEND.out (w5.drewN nq) ⟨hS5.os, hS5.tape, hS5.output, hS5.size, hS5.block⟩, by have := HJ.out; simp [RowKit.intOf]; try omega⟩
          | false =>
            go_wp2_with fail
            exact ⟨by simpa using HEND.out (w5.drewN nq) ⟨hS5.os, hS5.tape, hS5.output, hS5.size, hS5.block⟩, by have := HJ.out; simp [RowKit.intOf]; try omega⟩
      · obtain rfl : j = n + 1 := by omega
        have hin : ((E != 0) || M.among L A (n + 1)) = true := by
          by_cases hz : E = 0
          · have := M.among_all (HME.out hz)
            rw [HN.out] at this
            rw [this, Bool.or_true]
          · simp [hz]
        rw [hin]
        go_wp2_with fail
        go_ret
        exact ⟨rfl, HB.out.trans ((B2.trans (hW.mono B2.size)).mono HB.out.size)⟩
  · have hne : (M.chkE xs != 0) = true := bne_iff_ne.2 hE
    rw [show M.evr xs = [] by unfold M.evr; rw [if_neg hE]] at HE
    clear hN hN0 hw0 hc0 hb0 hE
    generalize M.chkE xs = k at *
    go_enter Try.func6, Try.ntmps6
    go_wp2_with fail
    rw [HW0.out]
    refine (HW.out _).mono ?_
    rintro e w1 ⟨rfl, B1⟩
    have c1 := HC0.out _ B1
    go_wp2_with fail
    refine (HE.out _ B1).mono ?_
    rintro e w2 ⟨v, rfl, hv, hb2⟩
    have B2 := B1.trans (hb2.mono B1.size)
    obtain ⟨va, vc, rfl⟩ := hv.slice
    have c2 := HC0.out _ B2
    clear c1 hb2 hv
    go_wp2_with fail
    refine (GK.out _ B2).mono ?_
    rintro e w3 ⟨rfl, hb3⟩
    have B3 := B2.trans (hb3.mono B2.size)
    go_wp2_with fail
    go_ret
    exact ⟨rfl, HB.out.trans (B3.mono HB.out.size)⟩
end Go.Proofs.Ytgmdloiekcifeaa
