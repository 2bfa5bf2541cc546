/- Package receipt: Same. Package receipt: Same. Package receipt: the reader's state; what it reads under it. What the calls of package unrlp must do; the example of layer 5. -/
import Derived.Test.YtihiacbhdcahkaaGreatDoorH21
import Derived.Shelf.Abstract
import Derived.Test.YtihiacbhdcahkaaGreatDoorH08
import Derived.Test.YtihiacbhdcahkaaGreatDoorH02
namespace Go.Proofs.YtihiacbhdcahkaaGreatDoor
open Go Go.RowKit Go.Shelf
theorem below_dN {n q : Nat} {w W : World} (h : Below n w W) : Below n w (W.drewN q) := ⟨h.os, h.tape, h.output, h.size, h.block⟩
namespace M
def sameL (g h : Lg) : Bool := (g.addr == h.addr) && ((g.topics == h.topics) && (g.data == h.data))
def sameLs : List Lg → List Lg → Bool
  | [], [] => true
  | g :: gs, h :: hs => sameL g h && sameLs gs hs
  | _, _ => false
def sameR (x y : Rc) : Bool := (x.kind == y.kind) && ((x.st == y.st) && ((x.gas == y.gas) && (sameLs x.logs y.logs && ((x.full == y.full) && ((x.nonce == y.nonce) && (x.ver == y.ver))))))
theorem sameL_iff {g h : Lg} : sameL g h = true ↔ g = h := by
  obtain ⟨a, t, d⟩ := g
  obtain ⟨a', t', d'⟩ := h
  simp [sameL]
theorem sameLs_iff : ∀ {gs hs : List Lg}, sameLs gs hs = true ↔ gs = hs
  | [], [] => by simp [sameLs]
  | [], _ :: _ => by simp [sameLs]
  | _ :: _, [] => by simp [sameLs]
  | g :: gs, h :: hs => by simp [sameLs, sameL_iff, sameLs_iff]
theorem sameLs_no {gs hs : List Lg} {i : Nat} {g h : Lg} (h1 : gs[i]? = some g) (h2 : hs[i]? = some h) (hn : sameL g h = false) : sameLs gs hs = false := by
  cases e : sameLs gs hs with
  | false => rfl
  | true =>
    rw [sameLs_iff] at e
    subst e
    rw [h1] at h2
    cases h2
    rw [sameL_iff.2 rfl] at hn
    cases hn
end M

set_option maxRecDepth 100000 in
set_option maxHeartbeats 4000000 in
theorem equalS_any (ls ms : List (List UInt8)) (a : Option Addr) (ca : Nat) (b : Option Addr) (cb : Nat) (w : World) (hA : Ts w w.heap.size ls (.slice a ls.length ca)) (hB : Ts w w.heap.size ms (.slice b ms.length cb)) (hl : ls.length ≤ 4000) :
    Calls Tryz.prog 58 #[.slice a ls.length ca, .slice b ms.length cb] w fun e w' => e = .returned (.bool (ls == ms)) ∧ Below w.heap.size w w' := by
  have mixed : Tryz.prog.follows .mixedOrders = true := by kernel_rfl
  obtain ⟨R, hR⟩ : ∃ R, R = (ls == ms) := ⟨_, rfl⟩
  rw [← hR]
  by_cases hlen : ls.length = ms.length
  · have hne : ((ls.length : Int) != (ms.length : Int)) = false := by simp; omega
    have HLen := Lib.hid hlen
    have HRR := Lib.hid hR
    have HA := Lib.hid hA
    have HB := Lib.hid hB
    clear hlen hR hA hB
    go_enter Tryz.func58, Tryz.ntmps58
    go_wp2_with fail
    clear hne
    go_loopw [13] (fun i wr => ∃ j : Nat, j ≤ ls.length ∧ i = .int .i64 j ∧ ls.take j = ms.take j ∧ Below w.heap.size w wr) (fun i _ => ls.length - (RowKit.intOf i).toNat)
    case atStart => exact ⟨0, by omega, rfl, by simp, Below.refl _ _⟩
    case round =>
      obtain ⟨j, hj, rfl, hq, hW⟩ := hrel
      by_cases hlt : j < ls.length
      · obtain ⟨bb, o, x, rfl, hbn, hx, e0⟩ := HA.out.at_ hlt
        have hlt2 : j < ms.length := by have := HLen.out; omega
        obtain ⟨b', o', y, rfl, hbn', hy, e0'⟩ := HB.out.at_ hlt2
        have g0 := (hW.cell (p := ⟨bb, o + j, none⟩) hbn).trans e0
        have g1 := (hW.cell (p := ⟨b', o' + j, none⟩) hbn').trans e0'
        have hj9 : j < 4000 := by omega
        have hlti : (j : Int) < (ls.length : Int) := by omega
        have hlti2 : (j : Int) < (ms.length : Int) := by omega
        have HQ := Lib.hid hq
        have HX := Lib.hid hx
        have HY := Lib.hid hy
        clear hq e0 e0' hl hx hy
        by_cases hxy : x = y
        · subst hxy
          have HT : Hid (ls.take (j + 1) = ms.take (j + 1)) := by show _ = _; rw [List.take_add_one, List.take_add_one, HQ.out, HX.out, HY.out]
          go_wp2_with fail
          go_quiet (fail)
          go_wp2_with fail
          exact ⟨⟨j + 1, by omega, by simp, HT.out, below_dN hW⟩, by simp [RowKit.intOf]; omega⟩
        · have HR : Hid (R = false) := by
            show _ = _
            rw [HRR.out, beq_eq_false_iff_ne]
            intro e
            have h1 := HX.out
            rw [e, HY.out] at h1
            exact hxy (Option.some.inj h1).symm
          have hne : (x == y) = false := beq_eq_false_iff_ne.2 hxy
          clear hxy
          go_wp2_with fail
          go_quiet (fail)
          go_wp2_with fail
          go_ret
          exact ⟨by rw [HR.out]; rfl, below_dN hW⟩
      · obtain rfl : j = ls.length := by omega
        have HR : Hid (R = true) := by
          show _ = _
          rw [HRR.out]
          have h2 := HLen.out
          rw [List.take_length, h2, List.take_length] at hq
          rw [hq]
          simp
        clear hq
        go_wp2_with fail
        go_ret
        exact ⟨by rw [HR.out]; rfl, hW⟩
  · have hne : ((ls.length : Int) != (ms.length : Int)) = true := by simp; omega
    have HR : Hid (R = false) := by
      show _ = _
      rw [hR, beq_eq_false_iff_ne]
      intro e
      exact hlen (by rw [e])
    clear hlen hR
    go_enter Tryz.func58, Tryz.ntmps58
    go_wp2_with fail
    go_ret
    exact ⟨by rw [HR.out]; rfl, Below.refl _ _⟩
set_option maxRecDepth 100000 in
set_option maxHeartbeats 4000000 in
theorem sameLog_any (g h : M.Lg) (a : Option Addr) (ca : Nat) (b : Option Addr) (cb : Nat) (w : World) (hA : Ts w w.heap.size g.topics (.slice a g.topics.length ca)) (hB : Ts w w.heap.size h.topics (.slice b h.topics.length cb)) (hl : g.topics.length ≤ 4000) :
    Calls Tryz.prog 36 #[lgv g (.slice a g.topics.length ca), lgv h (.slice b h.topics.length cb)] w fun e w' => e = .returned (.bool (M.sameL g h)) ∧ Below w.heap.size w w' := by
  obtain ⟨w0, hw0⟩ : ∃ w0, (w.alloc (.cells #[.string ⟨g.addr.toArray⟩, .slice a g.topics.length ca, .string ⟨g.data.toArray⟩] 40)).alloc (.cells #[.string ⟨h.addr.toArray⟩, .slice b h.topics.length cb, .string ⟨h.data.toArray⟩] 40) = w0 := ⟨_, rfl⟩
  have hb0 : Below w.heap.size w w0 := by rw [← hw0]; (repeat (first | exact Below.refl _ _ | refine Below.drew ?_ | refine Below.alloc ?_ (by first | omega | (simp; omega) | simp) _ | refine Below.setCell ?_ (by first | omega | (simp; omega) | simp) _))
  have hz : w0.heap.size = w.heap.size + 2 := by rw [← hw0]; simp
  have hx0 : LgBox w0 w.heap.size g (.slice a g.topics.length ca) := by rw [← hw0]; exact (LgBox.new w g _ _).from_ (n := w.heap.size + 1) ((Below.refl _ _).alloc (by simp) _) (by omega)
  have hy0 : LgBox w0 (w.heap.size + 1) h (.slice b h.topics.length cb) := by
    rw [← hw0]
    have := LgBox.new (w.alloc (.cells #[.string ⟨g.addr.toArray⟩, .slice a g.topics.length ca, .string ⟨g.data.toArray⟩] 40)) h (.slice b h.topics.length cb) 40
    rwa [World.size_alloc] at this
  have HE := Lib.hid (equalS_any g.topics h.topics a ca b cb w0 (hA.kept_ hb0) (hB.kept_ hb0) hl)
  have hM : M.sameL g h = ((g.addr == h.addr) && ((g.topics == h.topics) && (g.data == h.data))) := rfl
  rw [hM]
  have HB := Lib.hid hb0
  have HW := Lib.hid hw0
  have HX := Lib.hid (fun W (hh : Below w0.heap.size w0 W) => hx0.from_ hh (by omega))
  have HY := Lib.hid (fun W (hh : Below w0.heap.size w0 W) => hy0.from_ hh (by omega))
  generalize (g.topics == h.topics) = q2 at *
  obtain ⟨q1, hq1⟩ : ∃ q, (g.addr == h.addr) = q := ⟨_, rfl⟩
  obtain ⟨q3, hq3⟩ : ∃ q, (g.data == h.data) = q := ⟨_, rfl⟩
  rw [hq1, hq3]
  clear hb0 hw0 hx0 hy0 hA hB hM hz
  cases q1 with
  | false =>
    go_enter Tryz.func36, Tryz.ntmps36
    go_wp2_with fail
    try rw [HW.out]
    go_ret
    exact ⟨rfl, HB.out⟩
  | true =>
    go_enter Tryz.func36, Tryz.ntmps36
    go_wp2_with fail
    rw [HW.out]
    refine HE.out.mono ?_
    rintro e w1 ⟨rfl, hb1⟩
    obtain ⟨a0, a1, a2⟩ := HX.out _ hb1
    obtain ⟨b0, b1, b2⟩ := HY.out _ hb1
    cases q2 with
    | false =>
      go_wp2_with fail
      go_ret
      exact ⟨rfl, HB.out.trans (hb1.mono HB.out.size)⟩
    | true =>
      go_wp2_with fail
      go_ret
      exact ⟨by simp, HB.out.trans (hb1.mono HB.out.size)⟩
end Go.Proofs.YtihiacbhdcahkaaGreatDoor
namespace Go.Proofs.YtihiacbhdcahkaaGreatDoor
open Go Go.RowKit Go.Shelf
theorem M.sameLs_len {gs hs : List M.Lg} (h : gs.length ≠ hs.length) : M.sameLs gs hs = false := by
  cases e : M.sameLs gs hs with
  | false => rfl
  | true => rw [M.sameLs_iff] at e; exact absurd (by rw [e]) h

set_option maxRecDepth 100000 in
set_option maxHeartbeats 4000000 in
theorem equalL_any (ls ms : List M.Lg) (a : Option Addr) (ca : Nat) (b : Option Addr) (cb : Nat) (w : World) (hA : Ls w w.heap.size ls (.slice a ls.length ca)) (hB : Ls w w.heap.size ms (.slice b ms.length cb)) (hF : FewL ls) :
    Calls Tryz.prog 35 #[.slice a ls.length ca, .slice b ms.length cb, .func (.func 36) #[] #[]] w fun e w' => e = .returned (.bool (M.sameLs ls ms)) ∧ Below w.heap.size w w' := by
  have E1 : ∀ args w, (callFunc 36 args).run Tryz.prog w = .ok (.enter 36 args) w := enters_of Tryz.func36 (by kernel_rfl) rfl
  obtain ⟨R, hR⟩ : ∃ R, R = M.sameLs ls ms := ⟨_, rfl⟩
  rw [← hR]
  obtain ⟨hl, hts⟩ := hF
  by_cases hlen : ls.length = ms.length
  · have hne : ((ls.length : Int) != (ms.length : Int)) = false := by simp; omega
    have HLen := Lib.hid hlen
    have HRR := Lib.hid hR
    have HA := Lib.hid hA
    have HB := Lib.hid hB
    have HTS := Lib.hid hts
    clear hlen hR hA hB hts
    go_enter Tryz.func35, Tryz.ntmps35
    go_wp2_with fail
    clear hne
    go_loopw [17] (fun i wr => ∃ j : Nat, j ≤ ls.length ∧ i = .int .i64 j ∧ ls.take j = ms.take j ∧ Below w.heap.size w wr) (fun i _ => ls.length - (RowKit.intOf i).toNat)
    case atStart => exact ⟨0, by omega, rfl, by simp, Below.refl _ _⟩
    case round =>
      obtain ⟨j, hj, rfl, hq, hW⟩ := hrel
      by_cases hlt : j < ls.length
      · obtain ⟨bb, o, g, at1, ct1, rfl, hbn, hx, h0, h1, h2, hT1⟩ := HA.out.at_ hlt
        have hlt2 : j < ms.length := by have := HLen.out; omega
        obtain ⟨b', o', h, at2, ct2, rfl, hbn', hy, k0, k1, k2, hT2⟩ := HB.out.at_ hlt2
        have c0 := (hW.cell (p := ⟨bb, o + j * 3, none⟩) hbn).trans h0
        have c1 := (hW.cell (p := ⟨bb, o + j * 3 + 1, none⟩) hbn).trans h1
        have c2 := (hW.cell (p := ⟨bb, o + j * 3 + 2, none⟩) hbn).trans h2
        have hz1 := hW.size
        obtain ⟨wa, hwa⟩ : ∃ wa, wr.alloc (.cells #[.string ⟨g.addr.toArray⟩, .slice at1 g.topics.length ct1, .string ⟨g.data.toArray⟩] 40) = wa := ⟨_, rfl⟩
        have hba : Below wr.heap.size wr wa := by rw [← hwa]; exact (Below.refl _ _).alloc (Nat.le_refl _) _
        have hWa : Below w.heap.size w wa := hW.trans (hba.mono hW.size)
        have d0 : (wr.alloc (.cells #[.string ⟨g.addr.toArray⟩, .slice at1 g.topics.length ct1, .string ⟨g.data.toArray⟩] 40)).cell? ⟨b', o' + j * 3, none⟩ = some (.string ⟨h.addr.toArray⟩) := by rw [hwa]; exact (hWa.cell (p := ⟨b', o' + j * 3, none⟩) hbn').trans k0
        have d1 : (wr.alloc (.cells #[.string ⟨g.addr.toArray⟩, .slice at1 g.topics.length ct1, .string ⟨g.data.toArray⟩] 40)).cell? ⟨b', o' + j * 3 + 1, none⟩ = some (.slice at2 h.topics.length ct2) := by rw [hwa]; exact (hWa.cell (p := ⟨b', o' + j * 3 + 1, none⟩) hbn').trans k1
        have d2 : (wr.alloc (.cells #[.string ⟨g.addr.toArray⟩, .slice at1 g.topics.length ct1, .string ⟨g.data.toArray⟩] 40)).cell? ⟨b', o' + j * 3 + 2, none⟩ = some (.string ⟨h.data.toArray⟩) := by rw [hwa]; exact (hWa.cell (p := ⟨b', o' + j * 3 + 2, none⟩) hbn').trans k2
        obtain ⟨wb, hwb⟩ : ∃ wb, (wr.alloc (.cells #[.string ⟨g.addr.toArray⟩, .slice at1 g.topics.length ct1, .string ⟨g.data.toArray⟩] 40)).alloc (.cells #[.string ⟨h.addr.toArray⟩, .slice at2 h.topics.length ct2, .string ⟨h.data.toArray⟩] 40) = wb := ⟨_, rfl⟩
        have hbb : Below w.heap.size w wb := by rw [← hwb, hwa]; exact hWa.alloc hWa.size _
        have HS := Lib.hid (sameLog_any g h at1 ct1 at2 ct2 wb (hT1.kept_ hbb) (hT2.kept_ hbb) (HTS.out g (List.mem_of_getElem? hx)))
        have HWB := Lib.hid hwb
        have HBB := Lib.hid hbb
        have hj9 : j < 4000 := by omega
        have hlti : (j : Int) < (ls.length : Int) := by omega
        have hlti2 : (j : Int) < (ms.length : Int) := by omega
        have HQ := Lib.hid hq
        have HX := Lib.hid hx
        have HY := Lib.hid hy
        clear hq hx hy h0 h1 h2 k0 k1 k2 hT1 hT2 hwa hba hWa hwb hbb hz1 hl
        cases hs : M.sameL g h with
        | true =>
          have hgh := M.sameL_iff.1 hs
          have HT : Hid (ls.take (j + 1) = ms.take (j + 1)) := by show _ = _; rw [List.take_add_one, List.take_add_one, HQ.out, HX.out, HY.out, hgh]
          rw [hs] at HS
          clear hs hgh
          go_wp2_with fail
          rw [HWB.out]
          refine HS.out.mono ?_
          rintro e w1 ⟨rfl, hb1⟩
          clear c0 c1 c2 d0 d1 d2
          go_wp2_with fail
          exact ⟨⟨j + 1, by omega, by simp, HT.out, HBB.out.trans (hb1.mono HBB.out.size)⟩, by simp [RowKit.intOf]; omega⟩
        | false =>
          have HR : Hid (R = false) := by show _ = _; rw [HRR.out]; exact M.sameLs_no HX.out HY.out hs
          rw [hs] at HS
          clear hs
          go_wp2_with fail
          rw [HWB.out]
          refine HS.out.mono ?_
          rintro e w1 ⟨rfl, hb1⟩
          clear c0 c1 c2 d0 d1 d2
          go_wp2_with fail
          go_ret
          exact ⟨by rw [HR.out]; rfl, HBB.out.trans (hb1.mono HBB.out.size)⟩
      · obtain rfl : j = ls.length := by omega
        have HR : Hid (R = true) := by
          show _ = _
          rw [HRR.out]
          have h2 := HLen.out
          rw [List.take_length, h2, List.take_length] at hq
          rw [hq]
          exact M.sameLs_iff.2 rfl
        clear hq
        go_wp2_with fail
        go_ret
        exact ⟨by rw [HR.out]; rfl, hW⟩
  · have hne : ((ls.length : Int) != (ms.length : Int)) = true := by simp; omega
    have HR : Hid (R = false) := by
      show _ = _
      rw [hR]
      exact M.sameLs_len hlen
    clear hlen hR hts hl
    go_enter Tryz.func35, Tryz.ntmps35
    go_wp2_with fail
    go_ret
    exact ⟨by rw [HR.out]; rfl, Below.refl _ _⟩
set_option maxRecDepth 100000 in
set_option maxHeartbeats 8000000 in
theorem psame_any (x y : M.Rc) (a : Option Addr) (ca : Nat) (b : Option Addr) (cb : Nat) (w : World) (hA : Ls w w.heap.size x.logs (.slice a x.logs.length ca)) (hB : Ls w w.heap.size y.logs (.slice b y.logs.length cb)) (hF : FewL x.logs) :
    Calls Tryz.prog 17 #[rcv x (.slice a x.logs.length ca), rcv y (.slice b y.logs.length cb)] w fun e w' => e = .returned (.bool (M.sameR x y)) ∧ Below w.heap.size w w' := by
  obtain ⟨w0, hw0⟩ : ∃ w0, (w.alloc (.cells #[.int .i64 x.kind, .bool x.st, .int .u64 (x.gas : Nat), .slice a x.logs.length ca, .bool x.full, .int .u64 (x.nonce : Nat), .int .u64 (x.ver : Nat)] 25)).alloc (.cells #[.int .i64 y.kind, .bool y.st, .int .u64 (y.gas : Nat), .slice b y.logs.length cb, .bool y.full, .int .u64 (y.nonce : Nat), .int .u64 (y.ver : Nat)] 25) = w0 := ⟨_, rfl⟩
  have hb0 : Below w.heap.size w w0 := by rw [← hw0]; (repeat (first | exact Below.refl _ _ | refine Below.drew ?_ | refine Below.alloc ?_ (by first | omega | (simp; omega) | simp) _ | refine Below.setCell ?_ (by first | omega | (simp; omega) | simp) _))
  have hz : w0.heap.size = w.heap.size + 2 := by rw [← hw0]; simp
  have hx0 : RcBox w0 w.heap.size x (.slice a x.logs.length ca) := by rw [← hw0]; exact (RcBox.new w x _ _).from_ (n := w.heap.size + 1) ((Below.refl _ _).alloc (by simp) _) (by omega)
  have hy0 : RcBox w0 (w.heap.size + 1) y (.slice b y.logs.length cb) := by
    rw [← hw0]
    have := RcBox.new (w.alloc (.cells #[.int .i64 x.kind, .bool x.st, .int .u64 (x.gas : Nat), .slice a x.logs.length ca, .bool x.full, .int .u64 (x.nonce : Nat), .int .u64 (x.ver : Nat)] 25)) y (.slice b y.logs.length cb) 25
    rwa [World.size_alloc] at this
  have HE := Lib.hid (equalL_any x.logs y.logs a ca b cb w0 (hA.kept hb0) (hB.kept hb0) hF)
  have HB := Lib.hid hb0
  have HW := Lib.hid hw0
  have HX := Lib.hid (fun W (hh : Below w0.heap.size w0 W) => hx0.from_ hh (by omega))
  have HY := Lib.hid (fun W (hh : Below w0.heap.size w0 W) => hy0.from_ hh (by omega))
  clear hb0 hw0 hx0 hy0 hA hB hz hF
  obtain ⟨k, st, ga, ls, fu, no, ve⟩ := x
  obtain ⟨k2, st2, ga2, ls2, fu2, no2, ve2⟩ := y
  have hM : M.sameR ⟨k, st, ga, ls, fu, no, ve⟩ ⟨k2, st2, ga2, ls2, fu2, no2, ve2⟩ = ((k == k2) && ((st == st2) && ((ga == ga2) && (M.sameLs ls ls2 && ((fu == fu2) && ((no == no2) && (ve == ve2))))))) := rfl
  rw [hM]
  dsimp only at *
  have n1 : ((ga : Int) == (ga2 : Int)) = (ga == ga2) := by rw [Bool.eq_iff_iff, beq_iff_eq, beq_iff_eq]; omega
  have n2 : ((no : Int) == (no2 : Int)) = (no == no2) := by rw [Bool.eq_iff_iff, beq_iff_eq, beq_iff_eq]; omega
  have n3 : ((ve : Int) == (ve2 : Int)) = (ve == ve2) := by rw [Bool.eq_iff_iff, beq_iff_eq, beq_iff_eq]; omega
  generalize M.sameLs ls ls2 = q4 at *
  obtain ⟨q1, hq1⟩ : ∃ q, (k == k2) = q := ⟨_, rfl⟩
  obtain ⟨q2, hq2⟩ : ∃ q, (st == st2) = q := ⟨_, rfl⟩
  obtain ⟨q3, hq3⟩ : ∃ q, (ga == ga2) = q := ⟨_, rfl⟩
  obtain ⟨q5, hq5⟩ : ∃ q, (fu == fu2) = q := ⟨_, rfl⟩
  obtain ⟨q6, hq6⟩ : ∃ q, (no == no2) = q := ⟨_, rfl⟩
  obtain ⟨q7, hq7⟩ : ∃ q, (ve == ve2) = q := ⟨_, rfl⟩
  rw [hq3] at n1
  rw [hq6] at n2
  rw [hq7] at n3
  rw [hq1, hq2, hq3, hq5, hq6, hq7]
  clear hq3 hq6 hq7 hM
  cases q1 with
  | false =>
    go_enter Tryz.func17, Tryz.ntmps17
    go_wp2_with fail
    try rw [HW.out]
    go_ret
    exact ⟨rfl, HB.out⟩
  | true =>
  cases q2 with
  | false =>
    go_enter Tryz.func17, Tryz.ntmps17
    go_wp2_with fail
    try rw [HW.out]
    go_ret
    exact ⟨rfl, HB.out⟩
  | true =>
  cases q3 with
  | false =>
    go_enter Tryz.func17, Tryz.ntmps17
    go_wp2_with fail
    try rw [HW.out]
    go_ret
    exact ⟨rfl, HB.out⟩
  | true =>
    go_enter Tryz.func17, Tryz.ntmps17
    go_wp2_with fail
    rw [HW.out]
    refine HE.out.mono ?_
    rintro e w1 ⟨rfl, hb1⟩
    obtain ⟨a0, a1, a2, a3, a4, a5, a6⟩ := HX.out _ hb1
    obtain ⟨b0, b1, b2, b3, b4, b5, b6⟩ := HY.out _ hb1
    cases q4 with
    | false =>
      go_wp2_with fail
      go_ret
      exact ⟨by simp, HB.out.trans (hb1.mono HB.out.size)⟩
    | true =>
    cases q5 with
    | false =>
      go_wp2_with fail
      go_ret
      exact ⟨by simp, HB.out.trans (hb1.mono HB.out.size)⟩
    | true =>
    cases q6 with
    | false =>
      go_wp2_with fail
      go_ret
      exact ⟨by simp, HB.out.trans (hb1.mono HB.out.size)⟩
    | true =>
      go_wp2_with fail
      go_ret
      exact ⟨by simp, HB.out.trans (hb1.mono HB.out.size)⟩
end Go.Proofs.YtihiacbhdcahkaaGreatDoor
namespace Go.Proofs.YtihiacbhdcahkaaGreatDoor
open Go Go.RowKit Go.Lib
attribute [local go_sem] Oper.semAt_some

/-- The reader at block b holds this number: 0 where nothing is wrong. -/
def RS (w : World) (b e : Nat) : Prop := ∃ v, w.heap[b]? = some (.cells #[v] 63 (0, 0)) ∧ ((e = 0 ∧ v = .nilIface) ∨ (e ≠ 0 ∧ ∃ s, v = .iface 138 (.agg #[.string s, .int .i64 e])))
/-- But for block b all is as it was. -/
structure But (b : Nat) (w w' : World) : Prop where
  os : w'.os = w.os
  tape : w'.tape = w.tape
  output : w'.output = w.output
  size : w.heap.size ≤ w'.heap.size
  block : ∀ k, k < w.heap.size → k ≠ b → w'.heap[k]? = w.heap[k]?
theorem But.of {b : Nat} {w w' : World} (h : Below w.heap.size w w') : But b w w' := ⟨h.os, h.tape, h.output, h.size, fun k hk _ => h.block k hk⟩
theorem But.refl (b : Nat) (w : World) : But b w w := ⟨rfl, rfl, rfl, Nat.le_refl _, fun _ _ _ => rfl⟩
theorem But.trans {b : Nat} {u v w : World} (h : But b u v) (k : But b v w) : But b u w :=
  ⟨k.os.trans h.os, k.tape.trans h.tape, k.output.trans h.output, Nat.le_trans h.size k.size, fun i hi hb => (k.block i (Nat.lt_of_lt_of_le hi h.size) hb).trans (h.block i hi hb)⟩
theorem But.below {b : Nat} {w w' : World} (h : But b w w') (hb : b ≤ w.heap.size) : Below b w w' :=
  ⟨h.os, h.tape, h.output, h.size, fun k hk => h.block k (by omega) (by omega)⟩
theorem But.cell {b : Nat} {w w' : World} (h : But b w w') {p : Addr} (hp : p.block < w.heap.size) (hn : p.block ≠ b) : w'.cell? p = w.cell? p := World.cell?_of_block (w := w) (h.block p.block hp hn)
theorem RS.lt {w : World} {b e : Nat} (h : RS w b e) : b < w.heap.size := by
  obtain ⟨v, h, _⟩ := h
  exact (Array.getElem?_eq_some_iff.1 h).1
theorem RS.kept {w w' : World} {b e : Nat} (h : RS w b e) (hb : Below w.heap.size w w') : RS w' b e := by
  have hl := h.lt
  obtain ⟨v, h, q⟩ := h
  exact ⟨v, (hb.block b hl).trans h, q⟩
theorem RS.frz {w : World} {b e : Nat} (h : RS w b e) : w.frozen? ⟨b, 0, none⟩ = false := by
  obtain ⟨v, h, _⟩ := h
  simp [World.frozen?, h]
theorem RS.zero {w : World} {b : Nat} (h : RS w b 0) : w.cell? ⟨b, 0, none⟩ = some .nilIface := by
  obtain ⟨v, h, ⟨_, rfl⟩ | ⟨q, _⟩⟩ := h
  · simp [World.cell?, h]
  · exact absurd rfl q
theorem RS.held {w : World} {b e : Nat} (h : RS w b e) (he : e ≠ 0) : ∃ s, w.cell? ⟨b, 0, none⟩ = some (.iface 138 (.agg #[.string s, .int .i64 e])) := by
  obtain ⟨v, h, ⟨q, _⟩ | ⟨_, s, rfl⟩⟩ := h
  · exact absurd q he
  · exact ⟨s, by simp [World.cell?, h]⟩
/-- No text and no item lies in the reader's block. -/
theorem RS.one {w : World} {b e o : Nat} (h : RS w b e) : (∀ s, w.cell? ⟨b, o, none⟩ ≠ some (.string s)) ∧ ∀ l, w.cell? ⟨b, o, none⟩ ≠ some (.bool l) := by
  obtain ⟨v, h, q⟩ := h
  have hv : (∀ s, v ≠ .string s) ∧ ∀ l, v ≠ .bool l := by
    rcases q with ⟨_, rfl⟩ | ⟨_, s, rfl⟩
    · exact ⟨nofun, nofun⟩
    · exact ⟨nofun, nofun⟩
  cases o with
  | zero =>
    refine ⟨fun s hs => hv.1 s ?_, fun l hs => hv.2 l ?_⟩ <;> simpa [World.cell?, h] using hs
  | succ o => refine ⟨fun s hs => ?_, fun l hs => ?_⟩ <;> simp [World.cell?, h] at hs
theorem Ts.but {w w' : World} {b e n : Nat} {ls : List (List UInt8)} {v : Value} (h : Ts w n ls v) (hn : n ≤ w.heap.size) (hS : RS w b e) (hb : But b w w') : Ts w' n ls v := by
  cases h with
  | nil_ hm => exact .nil_ hm
  | @row _ g o cap hlt hc hm c =>
    cases ls with
    | nil => exact .nil_ hm
    | cons s ls =>
      have hne : g ≠ b := fun q => (q ▸ hS).one.1 _ (c 0 s rfl)
      exact .row hlt hc hm fun i s e => (hb.cell (p := ⟨_, _, _⟩) (by show g < _; omega) hne).trans (c i s e)
theorem Lay.but {w w' : World} {b e n : Nat} {xs : List M.It} {v : Value} (h : Lay w n xs v) (hn : n ≤ w.heap.size) (hS : RS w b e) (hb : But b w w') : Lay w' n xs v := by
  induction h with
  | nil_ hm => exact .nil_ hm
  | @row xs g o cap V hlt hc hm c0 c1 c2 _ ih =>
    cases xs with
    | nil => exact .nil_ hm
    | cons x xs =>
      obtain ⟨l, d, ys⟩ := x
      have hne : g ≠ b := fun q => (q ▸ hS).one.2 _ (c0 0 l d ys rfl)
      have hg : g < w.heap.size := by omega
      exact .row V hlt hc hm (fun i l d ys e => (hb.cell (p := ⟨_, _, _⟩) hg hne).trans (c0 i l d ys e)) (fun i l d ys e => (hb.cell (p := ⟨_, _, _⟩) hg hne).trans (c1 i l d ys e)) (fun i l d ys e => (hb.cell (p := ⟨_, _, _⟩) hg hne).trans (c2 i l d ys e)) ih
theorem Lay.butk {w w' : World} {b e : Nat} {xs : List M.It} {v : Value} (h : Lay w w.heap.size xs v) (hS : RS w b e) (hb : But b w w') : Lay w' w'.heap.size xs v := (h.but (Nat.le_refl _) hS hb).mono hb.size
theorem Ts.butk {w w' : World} {b e : Nat} {ls : List (List UInt8)} {v : Value} (h : Ts w w.heap.size ls v) (hS : RS w b e) (hb : But b w w') : Ts w' w'.heap.size ls v := (h.but (Nat.le_refl _) hS hb).mono hb.size
theorem Rd.butk {w w' : World} {b e : Nat} {l : Bool} {d : List UInt8} {xs : List M.It} {a : Option Addr} {cap : Nat} (h : Rd w l d xs a cap) (hS : RS w b e) (hb : But b w w') : Rd w' l d xs a cap := ⟨h.1.butk hS hb, h.2⟩
theorem Ls.butk {w w' : World} {b e : Nat} {ls : List M.Lg} {v : Value} (h : Ls w w.heap.size ls v) (hS : RS w b e) (hb : But b w w') : Ls w' w'.heap.size ls v := by
  cases h with
  | nil_ hm => exact .nil_ hm
  | @row _ g o cap V hlt hc hm c0 c1 c2 r =>
    cases ls with
    | nil => exact .nil_ hm
    | cons x xs =>
      have hne : g ≠ b := fun q => (q ▸ hS).one.1 _ (c0 0 x rfl)
      exact .row V (Nat.lt_of_lt_of_le hlt hb.size) hc hm (fun i l e => (hb.cell (p := ⟨_, _, _⟩) hlt hne).trans (c0 i l e)) (fun i l e => (hb.cell (p := ⟨_, _, _⟩) hlt hne).trans (c1 i l e)) (fun i l e => (hb.cell (p := ⟨_, _, _⟩) hlt hne).trans (c2 i l e)) fun i l e => (r i l e).butk hS hb
/-- A fault is laid down. -/
theorem RS.put {w : World} {b e n : Nat} (h : RS w b e) (hn : n ≠ 0) (part : ByteArray) : RS (w.setCell ⟨b, 0, none⟩ (.iface 138 (.agg #[.string part, .int .i64 n]))) b n ∧ But b w (w.setCell ⟨b, 0, none⟩ (.iface 138 (.agg #[.string part, .int .i64 n]))) := by
  obtain ⟨v, h, _⟩ := h
  refine ⟨⟨_, ?_, .inr ⟨hn, part, rfl⟩⟩, rfl, rfl, rfl, by simp [World.setCell], fun k hk hb => Below.heap_setCell _ _ _ _ hb⟩
  rw [setCell_eq_setRow w b 0 #[v] _ (0, 0) _ h]
  exact setRow_heap w b #[v] _ _ (0, 0) h
theorem RdPost.st {b n : Nat} {part : ByteArray} {w w' : World} (h : RdPost b part n w w') (hS : RS w b 0) : RS w' b n ∧ But b w w' := by
  rcases h with ⟨rfl, h⟩ | ⟨hn, W, h, rfl⟩
  · exact ⟨hS.kept h, .of h⟩
  · obtain ⟨h1, h2⟩ := (hS.kept h).put hn part
    exact ⟨h1, (But.of h).trans h2⟩
/-- A part is read where nothing is wrong yet. -/
theorem rd_bool (b e0 : Nat) (part : ByteArray) (l : Bool) (d : List UInt8) (a : Option Addr) (k cap : Nat) (v : Value) (n : Nat) (g : FuncId) (caps : Array Value) (w : World) (hS : RS w b e0)
    (E1 : ∀ args W, (callFunc g args).run Tryz.prog W = .ok (.enter g args) W)
    (HG : Hid (∀ W, Below w.heap.size w W → Calls Tryz.prog g (#[.agg #[.bool l, .string ⟨d.toArray⟩, .slice a k cap]] ++ caps) W fun e w' => e = .returned (.tuple #[v, .int .i64 n]) ∧ Below W.heap.size W w')) :
    Calls Tryz.prog 65 #[.pointer (some ⟨b, 0, none⟩), .string part, .agg #[.bool l, .string ⟨d.toArray⟩, .slice a k cap], .func (.func g) #[] caps] w fun e w' => e = .returned (if e0 = 0 then v else .bool false) ∧ RS w' b (if e0 = 0 then n else e0) ∧ But b w w' := by
  by_cases h0 : e0 = 0
  · subst h0
    rw [if_pos rfl, if_pos rfl]
    refine (read_bool b part l d a k cap v n g caps w hS.zero hS.frz E1 HG).mono ?_
    rintro e w' ⟨rfl, h⟩
    exact ⟨rfl, h.st hS⟩
  · rw [if_neg h0, if_neg h0]
    obtain ⟨s, hs⟩ := hS.held h0
    refine (readw_bool b part s _ l d a k cap _ w hs).mono ?_
    rintro e w' ⟨rfl, h⟩
    exact ⟨rfl, hS.kept h, .of h⟩
/-- A part is read where nothing is wrong yet. -/
theorem rd_u64 (b e0 : Nat) (part : ByteArray) (l : Bool) (d : List UInt8) (a : Option Addr) (k cap : Nat) (v : Value) (n : Nat) (g : FuncId) (caps : Array Value) (w : World) (hS : RS w b e0)
    (E1 : ∀ args W, (callFunc g args).run Tryz.prog W = .ok (.enter g args) W)
    (HG : Hid (∀ W, Below w.heap.size w W → Calls Tryz.prog g (#[.agg #[.bool l, .string ⟨d.toArray⟩, .slice a k cap]] ++ caps) W fun e w' => e = .returned (.tuple #[v, .int .i64 n]) ∧ Below W.heap.size W w')) :
    Calls Tryz.prog 67 #[.pointer (some ⟨b, 0, none⟩), .string part, .agg #[.bool l, .string ⟨d.toArray⟩, .slice a k cap], .func (.func g) #[] caps] w fun e w' => e = .returned (if e0 = 0 then v else .int .u64 0) ∧ RS w' b (if e0 = 0 then n else e0) ∧ But b w w' := by
  by_cases h0 : e0 = 0
  · subst h0
    rw [if_pos rfl, if_pos rfl]
    refine (read_u64 b part l d a k cap v n g caps w hS.zero hS.frz E1 HG).mono ?_
    rintro e w' ⟨rfl, h⟩
    exact ⟨rfl, h.st hS⟩
  · rw [if_neg h0, if_neg h0]
    obtain ⟨s, hs⟩ := hS.held h0
    refine (readw_u64 b part s _ l d a k cap _ w hs).mono ?_
    rintro e w' ⟨rfl, h⟩
    exact ⟨rfl, hS.kept h, .of h⟩
/-- A part is read where nothing is wrong yet. -/
theorem rd_str (b e0 : Nat) (part : ByteArray) (l : Bool) (d : List UInt8) (a : Option Addr) (k cap : Nat) (v : Value) (n : Nat) (g : FuncId) (caps : Array Value) (w : World) (hS : RS w b e0)
    (E1 : ∀ args W, (callFunc g args).run Tryz.prog W = .ok (.enter g args) W)
    (HG : Hid (∀ W, Below w.heap.size w W → Calls Tryz.prog g (#[.agg #[.bool l, .string ⟨d.toArray⟩, .slice a k cap]] ++ caps) W fun e w' => e = .returned (.tuple #[v, .int .i64 n]) ∧ Below W.heap.size W w')) :
    Calls Tryz.prog 109 #[.pointer (some ⟨b, 0, none⟩), .string part, .agg #[.bool l, .string ⟨d.toArray⟩, .slice a k cap], .func (.func g) #[] caps] w fun e w' => e = .returned (if e0 = 0 then v else .string ⟨#[]⟩) ∧ RS w' b (if e0 = 0 then n else e0) ∧ But b w w' := by
  by_cases h0 : e0 = 0
  · subst h0
    rw [if_pos rfl, if_pos rfl]
    refine (read_str b part l d a k cap v n g caps w hS.zero hS.frz E1 HG).mono ?_
    rintro e w' ⟨rfl, h⟩
    exact ⟨rfl, h.st hS⟩
  · rw [if_neg h0, if_neg h0]
    obtain ⟨s, hs⟩ := hS.held h0
    refine (readw_str b part s _ l d a k cap _ w hs).mono ?_
    rintro e w' ⟨rfl, h⟩
    exact ⟨rfl, hS.kept h, .of h⟩
set_option maxRecDepth 100000 in
set_option maxHeartbeats 2000000 in
theorem rd_list (b e0 : Nat) (part : ByteArray) (l : Bool) (d : List UInt8) (a : Option Addr) (k cap : Nat) (P : Value → World → Prop) (n : Nat) (g : FuncId) (caps : Array Value) (w : World) (hS : RS w b e0)
    (HP : Hid (∀ v W, P v W → ∀ W', But b W W' → RS W b 0 → P v W'))
    (HZ : Hid (e0 ≠ 0 → ∀ W, P (.slice none 0 0) W))
    (E1 : ∀ args W, (callFunc g args).run Tryz.prog W = .ok (.enter g args) W)
    (HG : Hid (e0 = 0 → ∀ W, Below w.heap.size w W → Calls Tryz.prog g (#[.agg #[.bool l, .string ⟨d.toArray⟩, .slice a k cap]] ++ caps) W fun e w' => (∃ v, e = .returned (.tuple #[v, .int .i64 n]) ∧ P v w') ∧ Below W.heap.size W w')) :
    Calls Tryz.prog 102 #[.pointer (some ⟨b, 0, none⟩), .string part, .agg #[.bool l, .string ⟨d.toArray⟩, .slice a k cap], .func (.func g) #[] caps] w fun e w' => (∃ v, e = .returned v ∧ P v w') ∧ RS w' b (if e0 = 0 then n else e0) ∧ But b w w' := by
  by_cases h0 : e0 = 0
  · subst h0
    rw [if_pos rfl]
    replace HG := Lib.hid (HG.out rfl)
    have hw := hS.zero
    have hfz := hS.frz
    have hbl := addr_lt hw
    have hw0 : ∀ o, (w.alloc o).cell? ⟨b, 0, none⟩ = some .nilIface := fun o => by rw [World.cell?_alloc_lt _ _ ⟨b, 0, none⟩ hbl]; exact hw
    have hb0 := (Below.refl w.heap.size w).alloc (Nat.le_refl _) (.cells #[.bool l, .string ⟨d.toArray⟩, .slice a k cap] 45)
    have HS := Lib.hid hS
    clear hS HZ
    by_cases hn : n = 0
    · subst hn
      go_enter Tryz.func102, Tryz.ntmps102
      go_wp2_with fail
      refine (HG.out _ hb0).mono ?_
      rintro e W ⟨⟨v, rfl, hP⟩, hb⟩
      go_wp2_with fail
      go_ret
      have hbb := hb0.trans (hb.mono hb0.size)
      exact ⟨⟨v, rfl, hP⟩, HS.out.kept hbb, .of hbb⟩
    · have hn1 : ((n : Int) == 0) = false := by simp [hn]
      have hnx : ¬ (n : Int) = 0 := by omega
      go_enter Tryz.func102, Tryz.ntmps102
      go_wp2_with fail
      refine (HG.out _ hb0).mono ?_
      rintro e W ⟨⟨v, rfl, hP⟩, hb⟩
      have hbb := hb0.trans (hb.mono hb0.size)
      have hw1 := (hbb.cell (p := ⟨b, 0, none⟩) hbl).trans hw
      have hf1 := (hbb.frozen (p := ⟨b, 0, none⟩) hbl).trans hfz
      have HQ := Lib.hid hP
      clear hb hP
      go_wp2_with fail
      go_ret
      have hk := HS.out.kept hbb
      obtain ⟨q1, q2⟩ := hk.put hn part
      exact ⟨⟨v, rfl, HP.out _ _ HQ.out _ q2 hk⟩, q1, (But.of hbb).trans q2⟩
  · rw [if_neg h0]
    obtain ⟨s, hs⟩ := hS.held h0
    refine (readw_list b part s _ l d a k cap _ w hs).mono ?_
    rintro e w' ⟨rfl, h⟩
    exact ⟨⟨_, rfl, HZ.out h0 _⟩, hS.kept h, .of h⟩
end Go.Proofs.YtihiacbhdcahkaaGreatDoor
namespace Go.Proofs.YtihiacbhdcahkaaGreatDoor
open Go Go.RowKit

/-- A head at any place. -/
def headZ (s : List UInt8) (k : Int) : M.Hd := if k < 0 then M.hdErr 1 else M.headL s k.toNat
def HeadOk : Prop := ∀ (s : List UInt8) (k : Int) (W : World), s.length ≤ 200000 → Calls Tryz.prog 180 #[.string ⟨s.toArray⟩, .int .i64 k] W fun e w' =>
  e = .returned (.tuple #[.int .i64 ((headZ s k).off : Nat), .int .i64 ((headZ s k).n : Nat), .bool (headZ s k).list, .int .i64 ((headZ s k).e : Nat)]) ∧ Below W.heap.size W w'
end Go.Proofs.YtihiacbhdcahkaaGreatDoor
