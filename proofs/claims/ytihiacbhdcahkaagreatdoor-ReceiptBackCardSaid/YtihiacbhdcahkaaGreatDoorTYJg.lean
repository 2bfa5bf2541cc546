/- Package receipt: a log is read. -/
import Derived.Test.YtihiacbhdcahkaaGreatDoorH26
namespace Go.Proofs.YtihiacbhdcahkaaGreatDoor
open Go Go.RowKit Go.Lib
attribute [local go_sem] Oper.semAt_some

namespace M
def rdParts (p : List It) : Lg × Nat :=
  let ra := rdT (rText 20) 0 (p.getD 0 zeroI)
  let rt0 := rdL ra.2 0 4 (p.getD 1 zeroI)
  let rt := rdEach (rdT (rText 32)) rt0.2 rt0.1
  let rd := rdT (getText 0 4096) rt.2 (p.getD 2 zeroI)
  (⟨ra.1, rt.1, rd.1⟩, rd.2)
def rdLog (e0 : Nat) (x : It) : Lg × Nat := if (rdL e0 3 3 x).2 ≠ 0 then (⟨[], [], []⟩, (rdL e0 3 3 x).2) else rdParts (rdL e0 3 3 x).1
theorem rdL_gd {e0 : Nat} {least most : Int} {x : It} (hx : Gd x) : ∀ y ∈ (rdL e0 least most x).1, Gd y := by
  unfold rdL
  split
  · obtain ⟨l, d, ys⟩ := x
    intro y hy
    have : (getList least most (.mk l d ys)).1 = [] ∨ (getList least most (.mk l d ys)).1 = ys := by
      cases l with
      | false => exact .inl rfl
      | true =>
        rw [getList]
        split
        · exact .inl rfl
        · exact .inr rfl
    rcases this with e | e
    · rw [e] at hy; cases hy
    · rw [e] at hy; exact hx.kids y hy
  · intro y hy; cases hy
theorem rdL_len {e0 : Nat} {least most : Int} {x : It} (h : (rdL e0 least most x).2 = 0) : least ≤ (rdL e0 least most x).1.length ∧ (rdL e0 least most x).1.length ≤ most := by
  unfold rdL at h ⊢
  split at h
  · rename_i h0
    rw [if_pos h0]
    obtain ⟨l, d, ys⟩ := x
    cases l with
    | false => cases h
    | true =>
      rw [getList] at h ⊢
      split at h
      · rename_i h1; exact absurd h h1
      · rename_i h1
        rw [if_neg h1]
        have h1 : within ys.length least most = 0 := by omega
        unfold within at h1
        split at h1
        · cases h1
        · split at h1
          · cases h1
          · show least ≤ (ys.length : Int) ∧ (ys.length : Int) ≤ most
            omega
  · rename_i h0; exact absurd h h0
theorem rdL_most {e0 : Nat} {least most : Int} {x : It} (hm : 0 ≤ most) : (rdL e0 least most x).1.length ≤ most := by
  by_cases h : (rdL e0 least most x).2 = 0
  · exact (rdL_len h).2
  · have : (rdL e0 least most x).1 = [] := by
      unfold rdL at h ⊢
      split at h
      · rename_i h0
        rw [if_pos h0]
        obtain ⟨l, d, ys⟩ := x
        cases l with
        | false => rfl
        | true =>
          rw [getList] at h ⊢
          split at h
          · rename_i h1; rw [if_pos h1]
          · exact absurd rfl h
      · rename_i h0; rw [if_neg h0]
    rw [this]
    exact hm
end M
/-- Three items in a row. -/
structure It3 (w : World) (q o : Nat) (l0 l1 l2 : Bool) (d0 d1 d2 : List UInt8) (a0 a1 a2 : Option Addr) (n0 n1 n2 c0 c1 c2 : Nat) : Prop where
  z00 : w.cell? ⟨q, o, none⟩ = some (.bool l0)
  z01 : w.cell? ⟨q, o + 1, none⟩ = some (.string ⟨d0.toArray⟩)
  z02 : w.cell? ⟨q, o + 2, none⟩ = some (.slice a0 n0 c0)
  z10 : w.cell? ⟨q, o + 3, none⟩ = some (.bool l1)
  z11 : w.cell? ⟨q, o + 4, none⟩ = some (.string ⟨d1.toArray⟩)
  z12 : w.cell? ⟨q, o + 5, none⟩ = some (.slice a1 n1 c1)
  z20 : w.cell? ⟨q, o + 6, none⟩ = some (.bool l2)
  z21 : w.cell? ⟨q, o + 7, none⟩ = some (.string ⟨d2.toArray⟩)
  z22 : w.cell? ⟨q, o + 8, none⟩ = some (.slice a2 n2 c2)
theorem It3.keep {w W : World} {q o : Nat} {l0 l1 l2 : Bool} {d0 d1 d2 : List UInt8} {a0 a1 a2 : Option Addr} {n0 n1 n2 c0 c1 c2 : Nat} (h : It3 w q o l0 l1 l2 d0 d1 d2 a0 a1 a2 n0 n1 n2 c0 c1 c2) (hq : W.heap[q]? = w.heap[q]?) : It3 W q o l0 l1 l2 d0 d1 d2 a0 a1 a2 n0 n1 n2 c0 c1 c2 := by
  have k : ∀ j, W.cell? ⟨q, j, none⟩ = w.cell? ⟨q, j, none⟩ := fun j => World.cell?_of_block (w := w) (a := ⟨q, j, none⟩) hq
  exact ⟨(k _).trans h.z00, (k _).trans h.z01, (k _).trans h.z02, (k _).trans h.z10, (k _).trans h.z11, (k _).trans h.z12, (k _).trans h.z20, (k _).trans h.z21, (k _).trans h.z22⟩
theorem It3.but {w W : World} {b q o : Nat} {l0 l1 l2 : Bool} {d0 d1 d2 : List UInt8} {a0 a1 a2 : Option Addr} {n0 n1 n2 c0 c1 c2 : Nat} (h : It3 w q o l0 l1 l2 d0 d1 d2 a0 a1 a2 n0 n1 n2 c0 c1 c2) (hb : But b w W) (hq : q ≠ b) (hl : q < w.heap.size) : It3 W q o l0 l1 l2 d0 d1 d2 a0 a1 a2 n0 n1 n2 c0 c1 c2 := h.keep (hb.block q hl hq)
theorem Lay.three {w : World} {n b e : Nat} {l0 l1 l2 : Bool} {d0 d1 d2 : List UInt8} {ys0 ys1 ys2 : List M.It} {v : Value} (h : Lay w n [.mk l0 d0 ys0, .mk l1 d1 ys1, .mk l2 d2 ys2] v) (hS : RS w b e) : ∃ q o a0 a1 a2 c0 c1 c2 cp, v = .slice (some ⟨q, o, none⟩) 3 cp ∧ q < n ∧ q ≠ b ∧
    It3 w q o l0 l1 l2 d0 d1 d2 a0 a1 a2 ys0.length ys1.length ys2.length c0 c1 c2 ∧ Lay w n ys0 (.slice a0 ys0.length c0) ∧ Lay w n ys1 (.slice a1 ys1.length c1) ∧ Lay w n ys2 (.slice a2 ys2.length c2) := by
  cases h with
  | @row _ q o cp V hlt hc hm c0 c1 c2 r =>
    obtain ⟨a0, p0, e0, _, _⟩ := (r 0 l0 d0 ys0 rfl).slice
    obtain ⟨a1, p1, e1, _, _⟩ := (r 1 l1 d1 ys1 rfl).slice
    obtain ⟨a2, p2, e2, _, _⟩ := (r 2 l2 d2 ys2 rfl).slice
    have hne : q ≠ b := fun k => (k ▸ hS).one.2 _ (c0 0 l0 d0 ys0 rfl)
    refine ⟨q, o, a0, a1, a2, p0, p1, p2, cp, rfl, hlt, hne, ⟨?_, ?_, ?_, ?_, ?_, ?_, ?_, ?_, ?_⟩, ?_, ?_, ?_⟩
    · exact c0 0 _ _ _ rfl
    · exact c1 0 _ _ _ rfl
    · exact (c2 0 _ _ _ rfl).trans (by rw [e0])
    · exact c0 1 _ _ _ rfl
    · exact c1 1 _ _ _ rfl
    · exact (c2 1 _ _ _ rfl).trans (by rw [e1])
    · exact c0 2 _ _ _ rfl
    · exact c1 2 _ _ _ rfl
    · exact (c2 2 _ _ _ rfl).trans (by rw [e2])
    · exact e0 ▸ r 0 l0 d0 ys0 rfl
    · exact e1 ▸ r 1 l1 d1 ys1 rfl
    · exact e2 ▸ r 2 l2 d2 ys2 rfl
theorem Tryz.logSize : (Tryz.prog.info? 40).map (·.size) = some 3 := by kernel_rfl
theorem lf_any {fn : Func} {p : Tmp} (hres : fn.results = #[.cell p 40]) (w1 : World) (tmps : Array Value) (A D : List UInt8) (v : Value) (g : Nat) (o0 o1 o2 : Value)
    (hrow : w1.heap[g]? = some (.cells #[o0, o1, o2] 40 (0, 0))) (R : Ending → World → Prop) (hp : tmps.getD p undef = .pointer (some ⟨g, 0, none⟩))
    (h : R (.returned (.agg #[.string ⟨A.toArray⟩, v, .string ⟨D.toArray⟩])) (w1.setRow g #[.string ⟨A.toArray⟩, v, .string ⟨D.toArray⟩])) :
    bodyPost Tryz.prog fn R .ret { tmps := tmps, defers := [] } (((w1.setCell ⟨g, 0, none⟩ (.string ⟨A.toArray⟩)).setCell ⟨g, 1, none⟩ v).setCell ⟨g, 2, none⟩ (.string ⟨D.toArray⟩)) := by
  rw [set_three hrow]
  have := results_cell_row (P := Tryz.prog) hres tmps (w1.setRow g #[.string ⟨A.toArray⟩, v, .string ⟨D.toArray⟩]) g 40 #[.string ⟨A.toArray⟩, v, .string ⟨D.toArray⟩] (0, 0) _ hp (setRow_heap _ _ _ _ _ (0, 0) hrow) Tryz.underlying40 rfl Tryz.logSize
  exact bodyPost_ret this rfl h
theorem lf_row {fn : Func} {p : Tmp} (hres : fn.results = #[.cell p 40]) (w1 : World) (tmps : Array Value) (A D : List UInt8) (v : Value) (g : Nat) (o0 o1 o2 : Value)
    (hrow : w1.heap[g]? = some (.cells #[o0, o1, o2] 40 (0, 0))) (R : Ending → World → Prop) (hp : tmps.getD p undef = .pointer (some ⟨g, 0, none⟩))
    (h : R (.returned (.agg #[.string ⟨A.toArray⟩, v, .string ⟨D.toArray⟩])) (w1.setRow g #[.string ⟨A.toArray⟩, v, .string ⟨D.toArray⟩])) :
    bodyPost Tryz.prog fn R .ret { tmps := tmps, defers := [] } (w1.setRow g #[.string ⟨A.toArray⟩, v, .string ⟨D.toArray⟩]) := by
  have := results_cell_row (P := Tryz.prog) hres tmps (w1.setRow g #[.string ⟨A.toArray⟩, v, .string ⟨D.toArray⟩]) g 40 #[.string ⟨A.toArray⟩, v, .string ⟨D.toArray⟩] (0, 0) _ hp (setRow_heap _ _ _ _ _ (0, 0) hrow) Tryz.underlying40 rfl Tryz.logSize
  exact bodyPost_ret this rfl h
set_option maxRecDepth 100000 in
set_option maxHeartbeats 8000000 in
theorem rlog_any (b e0 : Nat) (l : Bool) (d : List UInt8) (xs : List M.It) (a : Option Addr) (cap : Nat) (w : World) (hS : RS w b e0) (hR : Rd w l d xs a cap) :
    Calls Tryz.prog 70 #[.pointer (some ⟨b, 0, none⟩), iv l d (.slice a xs.length cap)] w fun e w' => (∃ v, e = .returned (lgv (M.rdLog e0 (.mk l d xs)).1 v) ∧ Ts w' w'.heap.size (M.rdLog e0 (.mk l d xs)).1.topics v ∧ OffB w.heap.size v) ∧ RS w' b (M.rdLog e0 (.mk l d xs)).2 ∧ But b w w' := by
  have mixed : Tryz.prog.follows .mixedOrders = true := by kernel_rfl
  have EA : ∀ args w, (callFunc 110 args).run Tryz.prog w = .ok (.enter 110 args) w := enters_of Tryz.func110 (by kernel_rfl) rfl
  have ED : ∀ args w, (callFunc 113 args).run Tryz.prog w = .ok (.enter 113 args) w := enters_of Tryz.func113 (by kernel_rfl) rfl
  obtain ⟨w0, hw0⟩ : ∃ w0, (w.alloc (.cells #[.bool l, .string ⟨d.toArray⟩, .slice a xs.length cap] 45)).alloc (.cells #[.string ⟨#[]⟩, .slice none 0 0, .string ⟨#[]⟩] 40) = w0 := ⟨_, rfl⟩
  have hb0 : Below w.heap.size w w0 := by rw [← hw0]; exact ((Below.refl _ _).alloc (Nat.le_refl _) _).alloc (by simp) _
  have hz0 : w0.heap.size = w.heap.size + 2 := by rw [← hw0]; simp
  obtain ⟨g, hg⟩ : ∃ g, w.heap.size + 1 = g := ⟨_, rfl⟩
  have hrow0 : w0.heap[g]? = some (.cells #[.string ⟨#[]⟩, .slice none 0 0, .string ⟨#[]⟩] 40 (0, 0)) := by
    rw [← hw0, ← hg]
    exact heap_alloc2_new w _ _
  have hbx : Box w0 w.heap.size l d (.slice a xs.length cap) := by
    rw [← hw0]
    refine ⟨?_, ?_, ?_⟩ <;> (rw [World.cell?_alloc_lt _ _ ⟨w.heap.size, _, none⟩ (by simp)])
    · exact (Box.new w l d _ _).c0
    · exact (Box.new w l d _ _).c1
    · exact (Box.new w l d _ _).c2
  have HL := Lib.hid (fun part => rlist_any b e0 part l d xs a cap 3 3 w0 (hS.kept hb0) (hR.kept hb0))
  have hgd : M.Gd (.mk l d xs) := hR.2
  have HGD := Lib.hid (M.rdL_gd (e0 := e0) (least := 3) (most := 3) hgd)
  have HLN := Lib.hid (fun h => M.rdL_len (e0 := e0) (least := 3) (most := 3) (x := .mk l d xs) h)
  have hbl := hS.lt
  have hgb : g ≠ b := by omega
  have hrl : M.rdLog e0 (.mk l d xs) = if (M.rdL e0 3 3 (.mk l d xs)).2 ≠ 0 then (⟨[], [], []⟩, (M.rdL e0 3 3 (.mk l d xs)).2) else M.rdParts (M.rdL e0 3 3 (.mk l d xs)).1 := rfl
  have HW := Lib.hid hw0
  have HB0 := Lib.hid hb0
  have HR0 := Lib.hid hrow0
  have p0 := hbx.c0
  have p1 := hbx.c1
  have p2 := hbx.c2
  clear hw0 hS hR hbx hgd hrow0 hb0
  rw [hrl]
  clear hrl
  generalize M.rdL e0 3 3 (.mk l d xs) = r at *
  obtain ⟨p, n⟩ := r
  by_cases hn : n = 0
  · subst hn
    rw [if_neg (by simp)]
    obtain ⟨x0, x1, x2, rfl⟩ : ∃ x0 x1 x2, p = [x0, x1, x2] := by
      obtain ⟨h1, h2⟩ := HLN.out rfl
      match p, h1, h2 with
      | [x0, x1, x2], _, _ => exact ⟨_, _, _, rfl⟩
      | [], h1, _ => simp at h1
      | [_], h1, _ => simp at h1
      | [_, _], h1, _ => simp at h1
      | _ :: _ :: _ :: _ :: _, _, h2 => simp at h2; omega
    obtain ⟨l0, d0, ys0⟩ := x0
    obtain ⟨l1, d1, ys1⟩ := x1
    obtain ⟨l2, d2, ys2⟩ := x2
    have hG := HGD.out
    have hG0 : M.Gd (.mk l0 d0 ys0) := hG _ (by simp)
    have hG1 : M.Gd (.mk l1 d1 ys1) := hG _ (by simp)
    have hG2 : M.Gd (.mk l2 d2 ys2) := hG _ (by simp)
    obtain ⟨ra, hra⟩ : ∃ ra, M.rdT (rText 20) 0 (.mk l0 d0 ys0) = ra := ⟨_, rfl⟩
    obtain ⟨rt0, hrt0⟩ : ∃ rt0, M.rdL ra.2 0 4 (.mk l1 d1 ys1) = rt0 := ⟨_, rfl⟩
    obtain ⟨rt, hrt⟩ : ∃ rt, M.rdEach (M.rdT (rText 32)) rt0.2 rt0.1 = rt := ⟨_, rfl⟩
    obtain ⟨rd, hrd⟩ : ∃ rd, M.rdT (M.getText 0 4096) rt.2 (.mk l2 d2 ys2) = rd := ⟨_, rfl⟩
    have hP : M.rdParts [.mk l0 d0 ys0, .mk l1 d1 ys1, .mk l2 d2 ys2] = (⟨ra.1, rt.1, rd.1⟩, rd.2) := by
      rw [← hrd, ← hrt, ← hrt0, ← hra]
      rfl
    rw [hP]
    have HA := Lib.hid (fun part W a0 c0 (s : RS W b 0) (hL : Lay W W.heap.size ys0 (.slice a0 ys0.length c0)) => rd_text b 0 part l0 d0 ys0 a0 c0 (rText 20) 110 W s (hG0.rd hL) EA (fun W hW => raddr_any l0 d0 ys0 a0 c0 W hW))
    have HTO := Lib.hid (fun part W a1 c1 (s : RS W b ra.2) (hL : Lay W W.heap.size ys1 (.slice a1 ys1.length c1)) => rlist_any b _ part l1 d1 ys1 a1 c1 0 4 W s (hG1.rd hL))
    have hg4 := M.rdL_gd (e0 := ra.2) (least := 0) (most := 4) hG1
    have hm4 := M.rdL_most (e0 := ra.2) (least := 0) (most := 4) (x := .mk l1 d1 ys1) (by omega)
    rw [hrt0] at HTO hg4 hm4
    rw [hra] at HA
    have HTP := Lib.hid (fun a9 c9 W (hL : Lay W W.heap.size rt0.1 (.slice a9 rt0.1.length c9)) (hs : RS W b rt0.2) => rdtopics_any b rt0.2 rt0.1 a9 c9 W hs hL hg4 (by omega))
    rw [hrt] at HTP
    have HD := Lib.hid (fun part W a2 c2 (s : RS W b rt.2) (hL : Lay W W.heap.size ys2 (.slice a2 ys2.length c2)) => rd_text b rt.2 part l2 d2 ys2 a2 c2 (M.getText 0 4096) 113 W s (hG2.rd hL) ED (fun W hW => rdata_any l2 d2 ys2 a2 c2 W hW))
    rw [hrd] at HD
    clear hra hrt0 hrt hrd hP hg4 hm4 hG hG0 hG1 hG2 HGD HLN EA ED
    go_enter Tryz.func70, Tryz.ntmps70
    go_wp2_with (first | rw [HW.out] | rw [hg])
    refine (HL.out _).mono ?_
    rintro e w2 ⟨⟨a2', c2', rfl, L2⟩, s2, q2⟩
    try dsimp only at L2 s2
    have s2z := s2.zero
    obtain ⟨q, o, a0, a1, a2, c0, c1, c2, cp, hv, hqn, hqb, h3, L0, L1, L22⟩ := L2.three s2
    cases hv
    have hrow2 := (q2.block g (by omega) hgb).trans HR0.out
    have hgq : q ≠ g := fun e => by
      have := h3.z00
      rw [e] at this
      have k : ∀ l, w2.cell? ⟨g, o, none⟩ ≠ some (.bool l) := fun l hl => by
        match o with
        | 0 => simp [World.cell?, hrow2] at hl
        | 1 => simp [World.cell?, hrow2] at hl
        | 2 => simp [World.cell?, hrow2] at hl
        | o + 3 => simp [World.cell?, hrow2] at hl
      exact k _ this
    have hdr : Below w2.heap.size w2 w2.drew := Below.drew (Below.refl _ _)
    have hq3 : q < w2.drew.heap.size := hqn
    have s3 := s2.kept hdr
    have HS3 := Lib.hid s3
    have HL0 := Lib.hid ((L0.from_ hdr).mono hdr.size)
    have HL1 := Lib.hid (fun W (h : But b w2.drew W) => ((L1.from_ hdr).mono hdr.size).butk s3 h)
    have HL2 := Lib.hid (fun W (h : But b w2.drew W) => ((L22.from_ hdr).mono hdr.size).butk s3 h)
    have HQ2 := Lib.hid ((But.of HB0.out).trans (q2.trans (But.of hdr)))
    have HR2 := Lib.hid ((hdr.block g (by have := q2.size; omega)).trans hrow2)
    have H3 := Lib.hid h3
    have hzz := q2.size
    have hgz : g < w2.drew.heap.size := Nat.lt_of_lt_of_le (Nat.lt_of_lt_of_le (by omega) hzz) hdr.size
    have n3 : ([M.It.mk l0 d0 ys0, .mk l1 d1 ys1, .mk l2 d2 ys2].length : Int) = 3 := rfl
    have n3' : [M.It.mk l0 d0 ys0, .mk l1 d1 ys1, .mk l2 d2 ys2].length = 3 := rfl
    rw [n3']
    clear L0 L1 L22 L2 s2 s3 hdr HL h3 q2 hrow2 n3 n3'
    go_wp2_with fail
    refine wp_region_held (S := fun Y => It3 Y q o l0 l1 l2 d0 d1 d2 a0 a1 a2 ys0.length ys1.length ys2.length c0 c1 c2) mixed ?_
    have hS0 : It3 w2.drew q o l0 l1 l2 d0 d1 d2 a0 a1 a2 ys0.length ys1.length ys2.length c0 c1 c2 := H3.out.keep rfl
    rw [show Array.replicate (Array.size _) false = #[false, false, false, false, false, false, false, false, false, false, false, false, false, false, false, false, false, false, false, false] from rfl, show Array.size (α := Oper) _ = 20 from rfl]
    refine wpAnyH_take (i := 0) (v := .pointer (some ⟨b, 0, none⟩)) rfl (by kernel_rfl) (by kernel_rfl) (by kernel_rfl) (fun _ _ _ h => h) (Or.inl ⟨by rfl, ?_⟩) hS0 ?_
    · intro Y hY
      skip
      go_simp
    simp only [Act.put, List.getElem_toArray, List.getElem_cons_zero, List.setIfInBounds_toArray, List.set_cons_zero, List.set_cons_succ]
    refine wpAnyH_take (i := 1) (v := .slice (some ⟨q, o, none⟩) 3 c2') rfl (by kernel_rfl) (by kernel_rfl) (by kernel_rfl) (fun _ _ _ h => h) (Or.inl ⟨by rfl, ?_⟩) hS0 ?_
    · intro Y hY
      skip
      go_simp
    simp only [Act.put, List.getElem_toArray, List.getElem_cons_succ, List.getElem_cons_zero, List.setIfInBounds_toArray, List.set_cons_zero, List.set_cons_succ]
    refine wpAnyH_take (i := 2) (v := .pointer (some ⟨q, o, none⟩)) rfl (by kernel_rfl) (by kernel_rfl) (by kernel_rfl) (fun _ _ _ h => h) (Or.inl ⟨by rfl, ?_⟩) hS0 ?_
    · intro Y hY
      skip
      go_simp
    simp only [Act.put, List.getElem_toArray, List.getElem_cons_succ, List.getElem_cons_zero, List.setIfInBounds_toArray, List.set_cons_zero, List.set_cons_succ]
    refine wpAnyH_take (i := 3) (v := iv l0 d0 (.slice a0 ys0.length c0)) rfl (by kernel_rfl) (by kernel_rfl) (by kernel_rfl) (fun _ _ _ h => h) (Or.inl ⟨by rfl, ?_⟩) hS0 ?_
    · intro Y hY
      obtain ⟨z00, z01, z02, z10, z11, z12, z20, z21, z22⟩ := hY
      go_simp
    simp only [Act.put, List.getElem_toArray, List.getElem_cons_succ, List.getElem_cons_zero, List.setIfInBounds_toArray, List.set_cons_zero, List.set_cons_succ]
    refine wpAnyH_take (i := 5) (v := .pointer (some ⟨b, 0, none⟩)) rfl (by kernel_rfl) (by kernel_rfl) (by kernel_rfl) (fun _ _ _ h => h) (Or.inl ⟨by rfl, ?_⟩) hS0 ?_
    · intro Y hY
      skip
      go_simp
    simp only [Act.put, List.getElem_toArray, List.getElem_cons_succ, List.getElem_cons_zero, List.setIfInBounds_toArray, List.set_cons_zero, List.set_cons_succ]
    refine wpAnyH_take (i := 6) (v := .slice (some ⟨q, o, none⟩) 3 c2') rfl (by kernel_rfl) (by kernel_rfl) (by kernel_rfl) (fun _ _ _ h => h) (Or.inl ⟨by rfl, ?_⟩) hS0 ?_
    · intro Y hY
      skip
      go_simp
    simp only [Act.put, List.getElem_toArray, List.getElem_cons_succ, List.getElem_cons_zero, List.setIfInBounds_toArray, List.set_cons_zero, List.set_cons_succ]
    refine wpAnyH_take (i := 7) (v := .pointer (some ⟨q, o + 3, none⟩)) rfl (by kernel_rfl) (by kernel_rfl) (by kernel_rfl) (fun _ _ _ h => h) (Or.inl ⟨by rfl, ?_⟩) hS0 ?_
    · intro Y hY
      skip
      go_simp
    simp only [Act.put, List.getElem_toArray, List.getElem_cons_succ, List.getElem_cons_zero, List.setIfInBounds_toArray, List.set_cons_zero, List.set_cons_succ]
    refine wpAnyH_take (i := 8) (v := iv l1 d1 (.slice a1 ys1.length c1)) rfl (by kernel_rfl) (by kernel_rfl) (by kernel_rfl) (fun _ _ _ h => h) (Or.inl ⟨by rfl, ?_⟩) hS0 ?_
    · intro Y hY
      obtain ⟨z00, z01, z02, z10, z11, z12, z20, z21, z22⟩ := hY
      go_simp
    simp only [Act.put, List.getElem_toArray, List.getElem_cons_succ, List.getElem_cons_zero, List.setIfInBounds_toArray, List.set_cons_zero, List.set_cons_succ]
    refine wpAnyH_take (i := 10) (v := .pointer (some ⟨b, 0, none⟩)) rfl (by kernel_rfl) (by kernel_rfl) (by kernel_rfl) (fun _ _ _ h => h) (Or.inl ⟨by rfl, ?_⟩) hS0 ?_
    · intro Y hY
      skip
      go_simp
    simp only [Act.put, List.getElem_toArray, List.getElem_cons_succ, List.getElem_cons_zero, List.setIfInBounds_toArray, List.set_cons_zero, List.set_cons_succ]
    refine wpAnyH_take (i := 11) (v := .func (.func 112) #[.pointer (some ⟨b, 0, none⟩)] #[]) rfl (by kernel_rfl) (by kernel_rfl) (by kernel_rfl) (fun _ _ _ h => h) (Or.inl ⟨by rfl, ?_⟩) hS0 ?_
    · intro Y hY
      skip
      go_simp
    simp only [Act.put, List.getElem_toArray, List.getElem_cons_succ, List.getElem_cons_zero, List.setIfInBounds_toArray, List.set_cons_zero, List.set_cons_succ]
    refine wpAnyH_take (i := 13) (v := .pointer (some ⟨b, 0, none⟩)) rfl (by kernel_rfl) (by kernel_rfl) (by kernel_rfl) (fun _ _ _ h => h) (Or.inl ⟨by rfl, ?_⟩) hS0 ?_
    · intro Y hY
      skip
      go_simp
    simp only [Act.put, List.getElem_toArray, List.getElem_cons_succ, List.getElem_cons_zero, List.setIfInBounds_toArray, List.set_cons_zero, List.set_cons_succ]
    refine wpAnyH_take (i := 14) (v := .slice (some ⟨q, o, none⟩) 3 c2') rfl (by kernel_rfl) (by kernel_rfl) (by kernel_rfl) (fun _ _ _ h => h) (Or.inl ⟨by rfl, ?_⟩) hS0 ?_
    · intro Y hY
      skip
      go_simp
    simp only [Act.put, List.getElem_toArray, List.getElem_cons_succ, List.getElem_cons_zero, List.setIfInBounds_toArray, List.set_cons_zero, List.set_cons_succ]
    refine wpAnyH_take (i := 15) (v := .pointer (some ⟨q, o + 6, none⟩)) rfl (by kernel_rfl) (by kernel_rfl) (by kernel_rfl) (fun _ _ _ h => h) (Or.inl ⟨by rfl, ?_⟩) hS0 ?_
    · intro Y hY
      skip
      go_simp
    simp only [Act.put, List.getElem_toArray, List.getElem_cons_succ, List.getElem_cons_zero, List.setIfInBounds_toArray, List.set_cons_zero, List.set_cons_succ]
    refine wpAnyH_take (i := 16) (v := iv l2 d2 (.slice a2 ys2.length c2)) rfl (by kernel_rfl) (by kernel_rfl) (by kernel_rfl) (fun _ _ _ h => h) (Or.inl ⟨by rfl, ?_⟩) hS0 ?_
    · intro Y hY
      obtain ⟨z00, z01, z02, z10, z11, z12, z20, z21, z22⟩ := hY
      go_simp
    simp only [Act.put, List.getElem_toArray, List.getElem_cons_succ, List.getElem_cons_zero, List.setIfInBounds_toArray, List.set_cons_zero, List.set_cons_succ]
    refine wpAnyH_ready (rs := [4]) (by kernel_rfl) (by simp) ?_
    refine AllReadyH.cons rfl (fun K hK => ?_) AllReadyH.nil
    go_simp
    refine (HA.out _ _ a0 c0 HS3.out HL0.out).mono ?_
    rintro e w4 ⟨rfl, s4, q4⟩
    have hS4 := hS0.but q4 hqb hq3
    have hq4 : q < w4.heap.size := Nat.lt_of_lt_of_le hq3 q4.size
    have HT0 := Lib.hid (fun part => HTO.out part w4 a1 c1 s4 (HL1.out w4 q4))
    clear HA HTO HL0 HL1 HS3
    try dsimp only
    refine hK.out _ _ hS4 (fun _ => ?_)
    clear hK K
    simp only [List.setIfInBounds_toArray, List.set_cons_zero, List.set_cons_succ]
    refine wpAnyH_ready (rs := [9]) (by kernel_rfl) (by simp) ?_
    refine AllReadyH.cons rfl (fun K hK => ?_) AllReadyH.nil
    go_simp
    refine (HT0.out _).mono ?_
    rintro e w9 ⟨⟨a9, c9, rfl, L9⟩, s9, q9⟩
    have hS9 := hS4.but q9 hqb hq4
    have hq9 : q < w9.heap.size := Nat.lt_of_lt_of_le hq4 q9.size
    have HT9 := Lib.hid (HTP.out a9 c9 w9 L9 s9)
    clear HTP HT0 L9
    try dsimp only
    refine hK.out _ _ hS9 (fun _ => ?_)
    clear hK K
    simp only [List.setIfInBounds_toArray, List.set_cons_zero, List.set_cons_succ]
    refine wpAnyH_ready (rs := [12]) (by kernel_rfl) (by simp) ?_
    refine AllReadyH.cons rfl (fun K hK => ?_) AllReadyH.nil
    go_simp
    refine (HT9.out).mono ?_
    rintro e w12 ⟨⟨v12, rfl, T12, o12⟩, s12, q12⟩
    have hS12 := hS9.but q12 hqb hq9
    have hq12 : q < w12.heap.size := Nat.lt_of_lt_of_le hq9 q12.size
    have HD1 := Lib.hid (fun part => HD.out part w12 a2 c2 s12 (HL2.out w12 (q4.trans (q9.trans q12))))
    clear HD HL2 HT9
    obtain ⟨av, cv, rfl, _, _⟩ := T12.slice
    have HT12 := Lib.hid T12
    have HO12 := Lib.hid o12
    clear T12 o12
    try dsimp only
    refine hK.out _ _ hS12 (fun _ => ?_)
    clear hK K
    simp only [List.setIfInBounds_toArray, List.set_cons_zero, List.set_cons_succ]
    refine wpAnyH_ready (rs := [17]) (by kernel_rfl) (by simp) ?_
    refine AllReadyH.cons rfl (fun K hK => ?_) AllReadyH.nil
    go_simp
    refine (HD1.out _).mono ?_
    rintro e w17 ⟨rfl, s17, q17⟩
    have hS17 := hS12.but q17 hqb hq12
    have qa := q4.trans (q9.trans (q12.trans q17))
    have hrow := (qa.block g hgz hgb).trans HR2.out
    have HT17 := Lib.hid (HT12.out.butk s12 q17)
    have HS17 := Lib.hid s17
    have HQ17 := Lib.hid (HQ2.out.trans qa)
    have HZ9 := Lib.hid (Nat.lt_of_lt_of_le hgz (Nat.le_trans q4.size q9.size))
    clear HD1 HT12 s4 s9 s12 s17 q4 q9 q12 q17 qa
    try dsimp only
    refine hK.out _ _ hS17 (fun _ => ?_)
    clear hK K
    simp only [List.setIfInBounds_toArray, List.set_cons_zero, List.set_cons_succ]
    refine wpAnyH_take (i := 18) (v := .agg #[.string ⟨ra.1.toArray⟩, .slice av rt.1.length cv, .string ⟨rd.1.toArray⟩]) rfl (by kernel_rfl) (by kernel_rfl) (by kernel_rfl) (fun _ _ _ h => h) (Or.inl ⟨by rfl, ?_⟩) hS17 ?_
    · intro Y hY
      skip
      go_simp
    simp only [Act.put, List.getElem_toArray, List.getElem_cons_succ, List.getElem_cons_zero, List.setIfInBounds_toArray, List.set_cons_zero, List.set_cons_succ]
    obtain ⟨⟨_, z0⟩, ⟨_, z1⟩, ⟨_, z2⟩, y0, y1, y2⟩ := cells_three hrow
    refine wpAnyH_ready (rs := [19]) (by kernel_rfl) (by simp) ?_
    refine AllReadyH.cons rfl (fun K hK => ?_) AllReadyH.nil
    go_simp
    rw [set_three hrow]
    have hS19 := hS17.keep (W := w17.setRow g #[.string ⟨ra.1.toArray⟩, .slice av rt.1.length cv, .string ⟨rd.1.toArray⟩]) (setRow_other w17 g q _ hgq)
    refine hK.out _ _ hS19 (fun _ => ?_)
    clear hK K
    simp only [List.setIfInBounds_toArray, List.set_cons_zero, List.set_cons_succ]
    refine wpAnyH_done (by kernel_rfl) ?_ _
    go_wp2_with fail
    refine lf_row rfl w17 _ ra.1 rd.1 _ g _ _ _ hrow _ ?_ ?_
    · rfl
    · refine ⟨⟨_, rfl, ?_, HO12.out.mono ?_⟩, HS17.out.row (Ne.symm hgb) _, HQ17.out.row ?_ _⟩
      · rw [setRow_size]
        exact HT17.out.row_ (HO12.out) (by have := HZ9.out; omega) _
      · have := HZ9.out
        omega
      · omega
  · have hn1 : ((n : Int) == 0) = false := by simp [hn]
    rw [if_pos hn]
    clear HGD HLN EA ED
    go_enter Tryz.func70, Tryz.ntmps70
    go_wp2_with (first | rw [HW.out] | rw [hg])
    refine (HL.out _).mono ?_
    rintro e w2 ⟨⟨a2', c2', rfl, L2⟩, s2, q2⟩
    obtain ⟨sm, s2h⟩ := s2.held hn
    have hrow2 := (q2.block g (by omega) hgb).trans HR0.out
    obtain ⟨⟨_, z0⟩, ⟨_, z1⟩, ⟨_, z2⟩, y0, y1, y2⟩ := cells_three hrow2
    have HS2 := Lib.hid s2
    have HQ2 := Lib.hid ((But.of HB0.out).trans q2)
    have HR2 := Lib.hid hrow2
    clear L2 s2 hrow2 HL q2
    go_wp2_with fail
    refine lf_any rfl w2 _ [] [] (.slice none 0 0) g _ _ _ HR2.out _ ?_ ?_
    · rfl
    · exact ⟨⟨_, rfl, .nil_ (by decide), OffB.none_ _ _ _⟩, HS2.out.row (Ne.symm hgb) _, HQ2.out.row (by omega) _⟩
end Go.Proofs.YtihiacbhdcahkaaGreatDoor
