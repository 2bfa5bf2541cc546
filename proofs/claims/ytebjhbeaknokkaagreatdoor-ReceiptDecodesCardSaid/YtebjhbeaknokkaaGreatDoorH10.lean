/- Package receipt: the bytes of an item, of a log. strings.Builder: what is written to it, and what it holds; package receipt: what is written of things, one behind the other. Package receipt: joined, of items and of logs; listed. Package receipt: listed. Package receipt: what a receipt's bytes are, plainly. Package receipt: Encode. Package receipt: Same. Package receipt: Same. Package receipt: the reader's state; what it reads under it. What the calls of package unrlp must do; the example of layer 5. -/
import Derived.Test.YtebjhbeaknokkaaGreatDoorH09
import Derived.OrdersHeld
import Derived.Deep.RegionHeld
import Derived.Great.BuildSlice
import Derived.Test.YtebjhbeaknokkaaGreatDoorSh
import Derived.Shelf.Strings.Builder1
import Derived.Test.YtebjhbeaknokkaaGreatDoorH04
import Derived.Test.YtebjhbeaknokkaaGreatDoorH01
import Derived.Shelf.Abstract
import Derived.Test.YtebjhbeaknokkaaGreatDoorH06
open List renaming getElem_toArray → zqA, getElem_cons_succ → zqB, getElem_cons_zero → zqC, setIfInBounds_toArray → zqD, set_cons_zero → zqE, set_cons_succ → zqF
namespace Go.Proofs.YtebjhbeaknokkaaGreatDoor
open Go Go.RowKit Go.Lib
attribute [local go_sem] Oper.semAt_some

theorem fill_it2 {n : Nat} (hn : n = 3) (l0 l1 : Bool) (d0 d1 : List UInt8) (v0 v1 : Value) : Instr.fill (fun i => some (i * n, n)) ((Array.range (2 * n)).map ((Value.agg #[.bool false, .string ⟨#[]⟩, .slice none 0 0]).cells[· % (Value.agg #[.bool false, .string ⟨#[]⟩, .slice none 0 0]).cells.size]!)) [(0, iv l0 d0 v0), (1, iv l1 d1 v1)] = some #[.bool l0, .string ⟨d0.toArray⟩, v0, .bool l1, .string ⟨d1.toArray⟩, v1] := by
  subst hn
  rw [show Array.range (2 * 3) = #[0, 1, 2, 3, 4, 5] from rfl]
  have hc : ∀ cs, (Value.agg cs).cells = cs := fun _ => rfl
  simp [Instr.fill, iv, hc]
theorem fill_it3 {n : Nat} (hn : n = 3) (l0 l1 l2 : Bool) (d0 d1 d2 : List UInt8) (v0 v1 v2 : Value) : Instr.fill (fun i => some (i * n, n)) ((Array.range (3 * n)).map ((Value.agg #[.bool false, .string ⟨#[]⟩, .slice none 0 0]).cells[· % (Value.agg #[.bool false, .string ⟨#[]⟩, .slice none 0 0]).cells.size]!)) [(0, iv l0 d0 v0), (1, iv l1 d1 v1), (2, iv l2 d2 v2)] = some #[.bool l0, .string ⟨d0.toArray⟩, v0, .bool l1, .string ⟨d1.toArray⟩, v1, .bool l2, .string ⟨d2.toArray⟩, v2] := by
  subst hn
  rw [show Array.range (3 * 3) = #[0, 1, 2, 3, 4, 5, 6, 7, 8] from rfl]
  have hc : ∀ cs, (Value.agg cs).cells = cs := fun _ => rfl
  simp [Instr.fill, iv, hc]
theorem wp_build_it2 {o : Oper} {a : Act} {w : World} {K : Act → World → Prop} {Q : Exit → Act → World → Prop} (x0 x1 : Operand) (l0 l1 : Bool) (d0 d1 : List UInt8) (v0 v1 : Value) (i0 : TypeInfo) (ho : o.op = .buildSlice 42 2 #[(0, x0), (1, x1)]) (e0 : a.eval x0 = iv l0 d0 v0) (e1 : a.eval x1 = iv l1 d1 v1)
    (hi : Tryz.prog.info? 44 = some i0) (hz0 : i0.zero = some (.agg #[.bool false, .string ⟨#[]⟩, .slice none 0 0])) (hz1 : i0.size = 3)
    (h : K (a.put o.dst (.slice (some ⟨w.heap.size, 0, none⟩) 2 2)) (w.alloc (.cells #[.bool l0, .string ⟨d0.toArray⟩, v0, .bool l1, .string ⟨d1.toArray⟩, v1] 44))) : o.wp Tryz.prog a w K Q := by
  refine wp_buildSlice 42 44 2 _ ho _ i0 _ Tryz.underlying42 hi hz0 (by rw [hz1]; decide) (by rw [hz1]; decide) ?_ h
  have := fill_it2 hz1 l0 l1 d0 d1 v0 v1
  simpa [e0, e1] using this
theorem wp_build_it3 {o : Oper} {a : Act} {w : World} {K : Act → World → Prop} {Q : Exit → Act → World → Prop} (x0 x1 x2 : Operand) (l0 l1 l2 : Bool) (d0 d1 d2 : List UInt8) (v0 v1 v2 : Value) (i0 : TypeInfo) (ho : o.op = .buildSlice 42 3 #[(0, x0), (1, x1), (2, x2)]) (e0 : a.eval x0 = iv l0 d0 v0) (e1 : a.eval x1 = iv l1 d1 v1) (e2 : a.eval x2 = iv l2 d2 v2)
    (hi : Tryz.prog.info? 44 = some i0) (hz0 : i0.zero = some (.agg #[.bool false, .string ⟨#[]⟩, .slice none 0 0])) (hz1 : i0.size = 3)
    (h : K (a.put o.dst (.slice (some ⟨w.heap.size, 0, none⟩) 3 3)) (w.alloc (.cells #[.bool l0, .string ⟨d0.toArray⟩, v0, .bool l1, .string ⟨d1.toArray⟩, v1, .bool l2, .string ⟨d2.toArray⟩, v2] 44))) : o.wp Tryz.prog a w K Q := by
  refine wp_buildSlice 42 44 3 _ ho _ i0 _ Tryz.underlying42 hi hz0 (by rw [hz1]; decide) (by rw [hz1]; decide) ?_ h
  have := fill_it3 hz1 l0 l1 l2 d0 d1 d2 v0 v1 v2
  simpa [e0, e1, e2] using this
theorem lay_made (w : World) (L : List (M.It × Value)) (h : ∀ p ∈ L, Lay w w.heap.size (kids p.1) p.2) (hm : L.length ≤ maxLen) :
    Lay (w.alloc (.cells (L.flatMap c3).toArray 44)) (w.heap.size + 1) (L.map (·.1)) (.slice (some ⟨w.heap.size, 0, none⟩) L.length L.length) := by
  have hrow := heap_alloc_new w (.cells (L.flatMap c3).toArray 44)
  have hcell : ∀ j u, (L.flatMap c3)[j]? = some u → (w.alloc (.cells (L.flatMap c3).toArray 44)).cell? ⟨w.heap.size, 0 + j, none⟩ = some u := fun j u hu => by
    generalize w.alloc (.cells (L.flatMap c3).toArray 44) = W at hrow
    simp [World.cell?, hrow, hu]
  have hat : ∀ i l d ys, (L.map (·.1))[i]? = some (M.It.mk l d ys) → ∃ u, L[i]? = some (M.It.mk l d ys, u) := fun i l d ys e => by
    rw [List.getElem?_map] at e
    cases hl : L[i]? with
    | none => rw [hl] at e; cases e
    | some p =>
      rw [hl] at e
      obtain ⟨x, u⟩ := p
      simp at e
      subst e
      exact ⟨u, hl⟩
  have hb : Below w.heap.size w (w.alloc (.cells (L.flatMap c3).toArray 44)) := (Below.refl _ _).alloc (Nat.le_refl _) _
  have key := Lay.row (w := w.alloc (.cells (L.flatMap c3).toArray 44)) (n := w.heap.size + 1) (xs := L.map (·.1)) (b := w.heap.size) (o := 0) (cap := L.length) (fun i => ((L[i]?).map (·.2)).getD Go.undef) (by omega) (by simp) hm
    (fun i l d ys e => by
      obtain ⟨u, hu⟩ := hat i l d ys e
      exact hcell _ _ (flat_at L i l d ys u hu).1)
    (fun i l d ys e => by
      obtain ⟨u, hu⟩ := hat i l d ys e
      have := hcell _ _ (flat_at L i l d ys u hu).2.1
      simpa [Nat.add_assoc] using this)
    (fun i l d ys e => by
      obtain ⟨u, hu⟩ := hat i l d ys e
      have := hcell _ _ (flat_at L i l d ys u hu).2.2
      simpa [Nat.add_assoc, hu] using this)
    (fun i l d ys e => by
      obtain ⟨u, hu⟩ := hat i l d ys e
      have := ((h _ (List.mem_of_getElem? hu)).from_ hb).mono (Nat.le_succ _)
      simpa [hu, kids] using this)
  rw [List.length_map] at key
  exact key
theorem M.hdL_len {n p : Nat} (hn : n < 18446744073709551616) : (M.hdL n p).length ≤ 9 := by
  unfold M.hdL
  split
  · simp
  · have := M.ben_le hn
    simp; omega
theorem M.textI_len {s : List UInt8} (h : s.length < 18446744073709551616) : (M.bytesI (M.textI s)).length ≤ s.length + 9 := by
  unfold M.textI
  rw [M.bytesI]
  split
  · omega
  · rw [List.length_append]
    have := M.hdL_len (n := s.length) (p := 128) h
    omega
theorem M.listI_len {xs : List M.It} (h : (M.bytesIs xs).length < 18446744073709551616) : (M.bytesI (M.listI xs)).length ≤ (M.bytesIs xs).length + 9 := by
  unfold M.listI
  rw [M.bytesI, List.length_append]
  have := M.hdL_len (n := (M.bytesIs xs).length) (p := 192) h
  omega
theorem M.texts_len (k : Nat) (hk : k < 100000) : ∀ ts : List (List UInt8), (∀ s ∈ ts, s.length ≤ k) → (M.bytesIs (ts.map M.textI)).length ≤ ts.length * (k + 9)
  | [], _ => by simp [M.bytesIs]
  | s :: ts, h => by
    have h1 := M.texts_len k hk ts fun x hx => h x (List.mem_cons_of_mem _ hx)
    have h2 := h s (by simp)
    have h3 := M.textI_len (s := s) (by omega)
    rw [List.map_cons, M.bytesIs, List.length_append, List.length_cons, Nat.add_mul]
    omega
theorem M.formIs_texts (d : Nat) : ∀ ts : List (List UInt8), M.formIs d (ts.map M.textI) = 0
  | [] => by simp [M.formIs]
  | s :: ts => by
    rw [List.map_cons, M.formIs, M.formIs_texts d ts]
    simp [M.textI, M.formI]
theorem M.formI_texts (d : Nat) (hd : d < 12) (ts : List (List UInt8)) (h : ts.length ≤ 512) : M.formI d (M.textsI ts) = 0 := by
  unfold M.textsI
  rw [M.formI, if_neg (by simp), if_neg (by simp), if_neg (by omega), if_neg (by rw [List.length_map]; omega)]
  exact M.formIs_texts _ ts
theorem M.cnt_texts : ∀ ts : List (List UInt8), M.cntIs (ts.map M.textI) = ts.length
  | [] => rfl
  | s :: ts => by
    rw [List.map_cons, M.cntIs, M.cnt_texts ts, List.length_cons]
    simp [M.textI, M.cntI, M.cntIs]
    omega
theorem M.sm_texts : ∀ ts : List (List UInt8), (∀ s ∈ ts, s.length ≤ 140737488355328) → M.smIs (ts.map M.textI)
  | [], _ => trivial
  | s :: ts, h => ⟨⟨h s (by simp), trivial⟩, M.sm_texts ts fun x hx => h x (List.mem_cons_of_mem _ hx)⟩
def M.logI (g : M.Lg) : M.It := M.listI [M.textI g.addr, M.textsI g.topics, M.textI g.data]
structure M.Short (g : M.Lg) : Prop where
  a : g.addr.length ≤ 100
  d : g.data.length ≤ 4096
  t : g.topics.length ≤ 10
  s : ∀ s ∈ g.topics, s.length ≤ 100
theorem M.logI_len {g : M.Lg} (h : M.Short g) : (M.bytesI (M.logI g)).length ≤ 6000 := by
  have e1 := M.textI_len (s := g.addr) (by have := h.a; omega)
  have e2 := M.textI_len (s := g.data) (by have := h.d; omega)
  have e3 := M.texts_len 100 (by omega) g.topics h.s
  have e4 : (M.bytesI (M.textsI g.topics)).length ≤ (M.bytesIs (g.topics.map M.textI)).length + 9 := M.listI_len (by have := h.t; omega)
  have h1 := h.a
  have h2 := h.d
  have h3 := h.t
  have e5 : (M.bytesIs [M.textI g.addr, M.textsI g.topics, M.textI g.data]).length ≤ 5900 := by
    simp only [M.bytesIs, List.length_append, List.length_nil]
    omega
  have := M.listI_len (xs := [M.textI g.addr, M.textsI g.topics, M.textI g.data]) (by omega)
  unfold M.logI
  omega
theorem M.logI_form {g : M.Lg} (h : g.topics.length ≤ 10) (d : Nat) (hd : d ≤ 9) : M.formI d (M.logI g) = 0 := by
  unfold M.logI M.listI
  rw [M.formI, if_neg (by simp), if_neg (by simp), if_neg (by omega), if_neg (by simp)]
  simp only [M.formIs, M.formI_texts (d + 1) (by omega) g.topics (by omega)]
  simp [M.textI, M.formI]
theorem M.logI_cnt (g : M.Lg) : M.cntIs [M.textI g.addr, M.textsI g.topics, M.textI g.data] = g.topics.length + 3 := by
  have := M.cnt_texts g.topics
  simp only [M.cntIs, M.textI, M.textsI, M.cntI]
  omega
set_option maxRecDepth 100000 in
theorem bytesof_any (l : Bool) (d : List UInt8) (xs : List M.It) (a : Option Addr) (cap : Nat) (w : World) (hL : Lay w w.heap.size xs (.slice a xs.length cap)) (hc : M.cntIs xs ≤ 4000) (hz : (M.bytesI (.mk l d xs)).length ≤ 65536) (hf : M.formI 0 (.mk l d xs) = 0) :
    Calls Tryz.prog 22 #[iv l d (.slice a xs.length cap)] w fun e w' => e = .returned (.string ⟨(M.bytesI (.mk l d xs)).toArray⟩) ∧ Below w.heap.size w w' := by
  have hb0 : Below w.heap.size w (w.alloc (.cells #[.bool l, .string ⟨d.toArray⟩, .slice a xs.length cap] 44)) := by (repeat (first | exact Below.refl _ _ | refine Below.drew ?_ | refine Below.alloc ?_ (by first | omega | (simp; omega) | simp) _ | refine Below.setCell ?_ (by first | omega | (simp; omega) | simp) _))
  have HE := Lib.hid (encode_any l d xs (.slice a xs.length cap) (w.alloc (.cells #[.bool l, .string ⟨d.toArray⟩, .slice a xs.length cap] 44)) ((hL.from_ hb0).mono (by simp)) hc (by omega))
  have e1 : M.encodeI (.mk l d xs) = (M.bytesI (.mk l d xs), 0) := by
    have : M.checkI (.mk l d xs) = 0 := by unfold M.checkI; rw [if_neg (by omega)]; exact hf
    unfold M.encodeI
    rw [if_pos this]
  rw [e1] at HE
  clear hL hc hz hf e1
  generalize M.bytesI (.mk l d xs) = s at *
  go_enter Tryz.func22, Tryz.ntmps22
  go_wp2_with fail
  refine HE.out.mono ?_
  rintro e w1 ⟨rfl, hb1⟩
  go_wp2_with fail
  go_ret
  exact ⟨rfl, hb0.trans (hb1.mono (by simp))⟩

set_option maxRecDepth 100000 in
set_option maxHeartbeats 4000000 in
theorem bytesoflog_any (g : M.Lg) (at_ : Option Addr) (ct : Nat) (w : World) (hT : Ts w w.heap.size g.topics (.slice at_ g.topics.length ct)) (hsh : M.Short g) :
    Calls Tryz.prog 25 #[lgv g (.slice at_ g.topics.length ct)] w fun e w' => e = .returned (.string ⟨(M.bytesI (M.logI g)).toArray⟩) ∧ Below w.heap.size w w' := by
  have mixed : Tryz.prog.follows .mixedOrders = true := by kernel_rfl
  obtain ⟨ha, hd, ht, hts⟩ := hsh
  have HCNT : Hid (M.cntIs [M.textI g.addr, M.textsI g.topics, M.textI g.data] ≤ 4000) := by show _ ≤ _; rw [M.logI_cnt]; omega
  have HSM : Hid (M.smIs [M.textI g.addr, M.textsI g.topics, M.textI g.data]) := ⟨⟨by omega, trivial⟩, ⟨by decide, M.sm_texts _ fun s hs => by have := hts s hs; omega⟩, ⟨by omega, trivial⟩, trivial⟩
  have HLN : Hid ((M.bytesI (.mk true [] [M.textI g.addr, M.textsI g.topics, M.textI g.data])).length ≤ 65536) := Nat.le_trans (M.logI_len ⟨ha, hd, ht, hts⟩) (by decide)
  have HFO := Lib.hid (M.logI_form (g := g) ht 0 (by omega))
  obtain ⟨w0, hw0⟩ : ∃ w0, w.alloc (.cells #[.string ⟨g.addr.toArray⟩, .slice at_ g.topics.length ct, .string ⟨g.data.toArray⟩] 39) = w0 := ⟨_, rfl⟩
  have hb0 : Below w.heap.size w w0 := by rw [← hw0]; exact (Below.refl _ _).alloc (Nat.le_refl _) _
  have hzw : w0.heap.size = w.heap.size + 1 := by rw [← hw0]; simp
  have hr0 : LgBox w0 w.heap.size g (.slice at_ g.topics.length ct) := by rw [← hw0]; exact LgBox.new w g _ _
  have HBX := Lib.hid (fun W (h : Below w0.heap.size w0 W) => hr0.from_ h (by omega))
  have HTA := Lib.hid (fun W (_ : Below w0.heap.size w0 W) => field_text g.addr W (by unfold longS; omega))
  have HTD := Lib.hid (fun W (_ : Below w0.heap.size w0 W) => field_text g.data W (by unfold longS; omega))
  have HTS := Lib.hid (fun W (h : Below w0.heap.size w0 W) => field_texts g.topics at_ ct W (hT.kept_ (hb0.trans (h.mono hb0.size))) (by omega) (fun s hs => by have := hts s hs; unfold longS; omega))
  have HW := Lib.hid hw0
  have HB := Lib.hid hb0
  obtain ⟨i0, hi, hz0, hz1, hz2⟩ := info_parts Tryz.ofItem
  clear hw0 hb0 hr0 hT
  go_enter Tryz.func25, Tryz.ntmps25
  go_wp2_with fail
  rw [HW.out]
  refine wp_region_held (S := fun Y => Below w0.heap.size w0 Y) mixed ?_
  have hS0 : Below w0.heap.size w0 w0.drew := Below.drew (Below.refl _ _)
  rw [show Array.replicate (Array.size _) false = #[false, false, false, false, false, false, false, false, false, false, false, false, false] from rfl, show Array.size (α := Oper) _ = 13 from rfl]
  refine wpAnyH_take (i := 0) (v := .pointer (some ⟨w.heap.size, 0, none⟩)) rfl (by kernel_rfl) (by kernel_rfl) (by kernel_rfl) (fun _ _ _ h => h) (Or.inl ⟨by rfl, ?_⟩) hS0 ?_
  · intro Y hY
    skip
    go_simp
  simp only [Act.put, zqA, zqC, zqD, zqE, zqF]
  refine wpAnyH_take (i := 1) (v := .string ⟨g.addr.toArray⟩) rfl (by kernel_rfl) (by kernel_rfl) (by kernel_rfl) (fun _ _ _ h => h) (Or.inl ⟨by rfl, ?_⟩) hS0 ?_
  · intro Y hY
    obtain ⟨a0, a1, a2⟩ := HBX.out _ hY
    go_simp
  simp only [Act.put, zqA, zqB, zqC, zqD, zqE, zqF]
  refine wpAnyH_take (i := 3) (v := .pointer (some ⟨w.heap.size, 1, none⟩)) rfl (by kernel_rfl) (by kernel_rfl) (by kernel_rfl) (fun _ _ _ h => h) (Or.inl ⟨by rfl, ?_⟩) hS0 ?_
  · intro Y hY
    skip
    go_simp
  simp only [Act.put, zqA, zqB, zqC, zqD, zqE, zqF]
  refine wpAnyH_take (i := 4) (v := .slice at_ g.topics.length ct) rfl (by kernel_rfl) (by kernel_rfl) (by kernel_rfl) (fun _ _ _ h => h) (Or.inl ⟨by rfl, ?_⟩) hS0 ?_
  · intro Y hY
    obtain ⟨a0, a1, a2⟩ := HBX.out _ hY
    go_simp
  simp only [Act.put, zqA, zqB, zqC, zqD, zqE, zqF]
  refine wpAnyH_take (i := 6) (v := .pointer (some ⟨w.heap.size, 2, none⟩)) rfl (by kernel_rfl) (by kernel_rfl) (by kernel_rfl) (fun _ _ _ h => h) (Or.inl ⟨by rfl, ?_⟩) hS0 ?_
  · intro Y hY
    skip
    go_simp
  simp only [Act.put, zqA, zqB, zqC, zqD, zqE, zqF]
  refine wpAnyH_take (i := 7) (v := .string ⟨g.data.toArray⟩) rfl (by kernel_rfl) (by kernel_rfl) (by kernel_rfl) (fun _ _ _ h => h) (Or.inl ⟨by rfl, ?_⟩) hS0 ?_
  · intro Y hY
    obtain ⟨a0, a1, a2⟩ := HBX.out _ hY
    go_simp
  simp only [Act.put, zqA, zqB, zqC, zqD, zqE, zqF]
  refine wpAnyH_ready (rs := [2]) (by kernel_rfl) (by simp) ?_
  refine AllReadyH.cons rfl (fun K hK => ?_) AllReadyH.nil
  go_simp
  refine (HTA.out _ hS0).mono ?_
  rintro e w1 ⟨rfl, hb1⟩
  have hS1 : Below w0.heap.size w0 w1 := hS0.trans (Below.mono hb1 hS0.size)
  try go_wp2_with fail
  refine hK.out _ _ hS1 (fun _ => ?_)
  clear hK K
  simp only [List.setIfInBounds_toArray, List.set_cons_zero, List.set_cons_succ]
  refine wpAnyH_ready (rs := [5]) (by kernel_rfl) (by simp) ?_
  refine AllReadyH.cons rfl (fun K hK => ?_) AllReadyH.nil
  go_simp
  refine (HTS.out _ hS1).mono ?_
  rintro e w2 ⟨⟨a2, c2, rfl, hLT⟩, hb2⟩
  have hS2 : Below w0.heap.size w0 w2 := hS1.trans (Below.mono hb2 hS1.size)
  try go_wp2_with fail
  refine hK.out _ _ hS2 (fun _ => ?_)
  clear hK K
  simp only [List.setIfInBounds_toArray, List.set_cons_zero, List.set_cons_succ]
  refine wpAnyH_ready (rs := [8]) (by kernel_rfl) (by simp) ?_
  refine AllReadyH.cons rfl (fun K hK => ?_) AllReadyH.nil
  go_simp
  refine (HTD.out _ hS2).mono ?_
  rintro e w3 ⟨rfl, hb3⟩
  have hS3 : Below w0.heap.size w0 w3 := hS2.trans (Below.mono hb3 hS2.size)
  try go_wp2_with fail
  refine hK.out _ _ hS3 (fun _ => ?_)
  clear hK K
  simp only [List.setIfInBounds_toArray, List.set_cons_zero, List.set_cons_succ]
  refine wpAnyH_ready (rs := [9]) (by kernel_rfl) (by simp) ?_
  refine AllReadyH.cons rfl (fun K hK => ?_) AllReadyH.nil
  rw [if_pos (by rfl)]
  refine wp_build_it3 _ _ _ false true false g.addr [] g.data _ _ _ i0 rfl rfl rfl rfl hi hz0 hz1 ?_
  obtain ⟨w4, hw4⟩ : ∃ w4, w3.alloc (.cells #[.bool false, .string ⟨g.addr.toArray⟩, .slice none 0 0, .bool true, .string ⟨#[]⟩, .slice a2 g.topics.length c2, .bool false, .string ⟨g.data.toArray⟩, .slice none 0 0] 44) = w4 := ⟨_, rfl⟩
  have hb34 : Below w3.heap.size w3 w4 := by rw [← hw4]; exact (Below.refl _ _).alloc (Nat.le_refl _) _
  have hS4 : Below w0.heap.size w0 w4 := hS3.trans (hb34.mono hS3.size)
  have hL4 : Lay w4 w4.heap.size [M.textI g.addr, M.textsI g.topics, M.textI g.data] (.slice (some ⟨w3.heap.size, 0, none⟩) 3 3) := by
    have := lay_made w3 [(M.textI g.addr, .slice none 0 0), (M.textsI g.topics, .slice a2 g.topics.length c2), (M.textI g.data, .slice none 0 0)] (by
      intro p hp
      simp only [List.mem_cons, List.not_mem_nil, or_false] at hp
      rcases hp with rfl | rfl | rfl
      · exact .nil_ (by decide)
      · exact (hLT.from_ hb3).mono hb3.size
      · exact .nil_ (by decide)) (by show 3 ≤ maxLen; decide)
    rw [← hw4]
    exact this.mono (by simp)
  have HFL := Lib.hid (flist_it [M.textI g.addr, M.textsI g.topics, M.textI g.data] (some ⟨w3.heap.size, 0, none⟩) 3 w4 HCNT.out HSM.out hL4)
  rw [hw4]
  clear hw4 hL4 hLT
  refine hK.out _ _ hS4 (fun _ => ?_)
  clear hK K
  simp only [List.setIfInBounds_toArray, List.set_cons_zero, List.set_cons_succ]
  refine wpAnyH_ready (rs := [10]) (by kernel_rfl) (by simp) ?_
  refine AllReadyH.cons rfl (fun K hK => ?_) AllReadyH.nil
  go_simp
  refine HFL.out.mono ?_
  rintro e w5 ⟨⟨a5, c5, rfl, hL5⟩, hb5⟩
  have hS5 : Below w0.heap.size w0 w5 := hS4.trans (Below.mono hb5 hS4.size)
  have HBO := Lib.hid (bytesof_any true [] [M.textI g.addr, M.textsI g.topics, M.textI g.data] a5 c5 w5 hL5 HCNT.out HLN.out HFO.out)
  clear hL5
  try go_wp2_with fail
  refine hK.out _ _ hS5 (fun _ => ?_)
  clear hK K
  simp only [List.setIfInBounds_toArray, List.set_cons_zero, List.set_cons_succ]
  refine wpAnyH_ready (rs := [11]) (by kernel_rfl) (by simp) ?_
  refine AllReadyH.cons rfl (fun K hK => ?_) AllReadyH.nil
  go_simp
  refine HBO.out.mono ?_
  rintro e w6 ⟨rfl, hb6⟩
  have hS6 : Below w0.heap.size w0 w6 := hS5.trans (Below.mono hb6 hS5.size)
  try go_wp2_with fail
  refine hK.out _ _ hS6 (fun _ => ?_)
  clear hK K
  simp only [List.setIfInBounds_toArray, List.set_cons_zero, List.set_cons_succ]
  refine wpAnyH_take (i := 12) (v := .string ⟨(M.bytesI (.mk true [] [M.textI g.addr, M.textsI g.topics, M.textI g.data])).toArray⟩) rfl (by kernel_rfl) (by kernel_rfl) (by kernel_rfl) (fun _ _ _ h => h) (Or.inl ⟨by rfl, ?_⟩) hS6 ?_
  · intro Y hY
    skip
    go_simp
  simp only [Act.put, zqA, zqB, zqC, zqD, zqE, zqF]
  refine wpAnyH_done (by kernel_rfl) ?_ _
  clear hb1 hb2 hb3 hb34 hb5 hb6
  go_wp2_with fail
  go_ret
  exact ⟨rfl, HB.out.trans (hS6.mono HB.out.size)⟩
end Go.Proofs.YtebjhbeaknokkaaGreatDoor
namespace Go.Proofs.YtebjhbeaknokkaaGreatDoor
open Go Go.RowKit Go.Lib Go.Shelf
attribute [local go_sem] Oper.semAt_some

abbrev IsB (B b : Nat) (l : List UInt8) (w : World) : Prop := Lib.IsBuilder 77 5 B b (Lib.byteCells l) w
theorem IsB.from_ {B b : Nat} {l : List UInt8} {w W : World} (h : IsB B b l w) (hb : Below w.heap.size w W) : IsB B b l W := by
  have key : ∀ p, Lib.BuilderAt 77 5 B b p (Lib.byteCells l) w → Lib.BuilderAt 77 5 B b p (Lib.byteCells l) W := fun p ⟨h1, v, h2, h3, h4⟩ => by
    refine ⟨h1, v, (hb.block b (Array.getElem?_eq_some_iff.1 h2).1).trans h2, ?_, h4⟩
    refine World.ownsRow.kept h3 (row := none) ⟨hb.os, hb.tape, hb.output, hb.size, fun i hi _ => hb.block i hi⟩ ?_
    cases v.ownBlock <;> simp
  exact h.imp (key _) (key _)
theorem wstring_any (B b : Nat) (l : List UInt8) (s : List UInt8) (w : World) (h : IsB B b l w) (hlen : l.length + s.length ≤ 140737488355328) (hBw : B ≤ w.heap.size) :
    Calls Tryz.prog 41 #[.pointer (some ⟨b, 0, none⟩), .string ⟨s.toArray⟩] w fun e w' => e = .returned (.tuple #[.int .i64 (s.length : Nat), .nilIface]) ∧ IsB B b (l ++ s) w' ∧ Below B w w' := by
  have hl : (Lib.byteCells l).length = l.length := by simp [Lib.byteCells]
  have := Any.Builder_WriteString (P := Tryz.prog) (ρ := lays105_ren) { lays105 with } Builder_Extra_105 B b (Lib.byteCells l) ⟨s.toArray⟩ w h (by rw [hl]; exact hlen) hBw
  refine Calls.mono this ?_
  rintro e w' ⟨rfl, h1, h2⟩
  refine ⟨rfl, .inr ?_, h2⟩
  have e1 : Lib.byteCells (l ++ s) = Lib.byteCells l ++ Lib.strCells ⟨s.toArray⟩ := by simp [Lib.byteCells, Lib.strCells]
  rw [e1]
  exact h1
theorem bstring_any (B b : Nat) (l : List UInt8) (w : World) (h : IsB B b l w) (hBw : B ≤ w.heap.size) :
    Calls Tryz.prog 42 #[.pointer (some ⟨b, 0, none⟩)] w fun e w' => e = .returned (.string ⟨l.toArray⟩) ∧ Below B w w' :=
  Any.Builder_String_any (P := Tryz.prog) (ρ := lays105_ren) { lays105 with } Builder_Extra_105 B b l w h hBw
theorem IsB.new (w : World) : IsB w.heap.size w.heap.size [] (w.alloc (.cells #[.pointer none, .slice none 0 0] 77)) :=
  .inl ⟨Nat.le_refl _, .slice none 0 0, heap_alloc_new w _, World.ownsRow_nil _ _ _ _, by simp [Value.ownBlock]⟩
end Go.Proofs.YtebjhbeaknokkaaGreatDoor
namespace Go.Proofs.YtebjhbeaknokkaaGreatDoor
open Go Go.RowKit Go.Lib Go.Shelf
attribute [local go_sem] Oper.semAt_some

theorem M.bytesIs_nx {xs : List M.It} {j : Nat} {x : M.It} (h : xs[j]? = some x) : M.bytesIs (xs.take (j + 1)) = M.bytesIs (xs.take j) ++ M.bytesI x := by
  rw [List.take_add_one, h]
  have : ∀ (l : List M.It) (y : M.It), M.bytesIs (l ++ [y]) = M.bytesIs l ++ M.bytesI y := fun l y => by
    induction l with
    | nil => simp [M.bytesIs]
    | cons z l ih => rw [List.cons_append, M.bytesIs, M.bytesIs, ih, List.append_assoc]
  exact this _ x
theorem M.bytesIs_take : ∀ (xs : List M.It) (j : Nat), (M.bytesIs (xs.take j)).length ≤ (M.bytesIs xs).length
  | [], j => by simp [M.bytesIs]
  | x :: xs, 0 => by simp [M.bytesIs]
  | x :: xs, j + 1 => by
    rw [List.take_succ_cons, M.bytesIs, M.bytesIs, List.length_append, List.length_append]
    have := M.bytesIs_take xs j
    omega

set_option maxRecDepth 100000 in
set_option maxHeartbeats 4000000 in
theorem joinedI_any (xs : List M.It) (a : Option Addr) (cap : Nat) (w : World) (hL : Lay w w.heap.size xs (.slice a xs.length cap)) (hl : xs.length ≤ 4000) (hz : (M.bytesIs xs).length ≤ 1000000)
    (hx : ∀ l d ys, M.It.mk l d ys ∈ xs → M.cntIs ys ≤ 4000 ∧ (M.bytesI (.mk l d ys)).length ≤ 65536 ∧ M.formI 0 (.mk l d ys) = 0) :
    Calls Tryz.prog 21 #[.slice a xs.length cap, .func (.func 22) #[] #[]] w fun e w' => e = .returned (.string ⟨(M.bytesIs xs).toArray⟩) ∧ Below w.heap.size w w' := by
  have E1 : ∀ args w, (callFunc 22 args).run Tryz.prog w = .ok (.enter 22 args) w := enters_of Tryz.func22 (by kernel_rfl) rfl
  obtain ⟨h, hh⟩ : ∃ h, w.heap.size = h := ⟨_, rfl⟩
  obtain ⟨w0, hw0⟩ : ∃ w0, w.alloc (.cells #[.pointer none, .slice none 0 0] 77) = w0 := ⟨_, rfl⟩
  have hb0 : Below h w w0 := by rw [← hw0, ← hh]; exact (Below.refl _ _).alloc (Nat.le_refl _) _
  have hI0 : IsB h h [] w0 := by rw [← hw0, ← hh]; exact IsB.new w
  have HL := Lib.hid hL
  have HX := Lib.hid hx
  have HZ := Lib.hid hz
  have HW := Lib.hid hw0
  clear hL hx hz hw0
  go_enter Tryz.func21, Tryz.ntmps21
  go_wp2_with fail
  try rw [HW.out]
  try rw [hh]
  have HH := Lib.hid hh
  clear hh HW
  go_loopw [10] (fun i wr => ∃ j : Nat, j ≤ xs.length ∧ i = .int .i64 (j : Nat) ∧ IsB h h (M.bytesIs (xs.take j)) wr ∧ Below h w wr) (fun i _ => xs.length - (RowKit.intOf i).toNat)
  case atStart => exact ⟨0, Nat.zero_le _, rfl, by simpa [M.bytesIs] using hI0, hb0⟩
  case round =>
    clear hI0 hb0
    obtain ⟨j, hj, rfl, hI, hW⟩ := hrel
    have hWz : h ≤ wr.heap.size := by have := hW.size; rw [HH.out] at this; exact this
    by_cases hlt : j < xs.length
    · obtain ⟨b, o, cap', l, d, ys, u, hv, hbn, hs, h0, h1, h2, hu⟩ := HL.out.at_ hlt
      cases hv
      rw [HH.out] at hbn
      have c0 := (hW.cell (p := ⟨b, o + j * 3, none⟩) hbn).trans h0
      have c1 := (hW.cell (p := ⟨b, o + j * 3 + 1, none⟩) hbn).trans h1
      have c2 := (hW.cell (p := ⟨b, o + j * 3 + 2, none⟩) hbn).trans h2
      obtain ⟨q1, q2, q3⟩ := HX.out l d ys (List.mem_of_getElem? hs)
      obtain ⟨au, cu, rfl, _, _⟩ := hu.slice
      have hb1 : Below wr.heap.size wr (wr.alloc (.cells #[.bool l, .string ⟨d.toArray⟩, .slice au ys.length cu] 44)) := (Below.refl _ _).alloc (Nat.le_refl _) _
      have hWu : Below w.heap.size w (wr.alloc (.cells #[.bool l, .string ⟨d.toArray⟩, .slice au ys.length cu] 44)) := by rw [HH.out]; exact hW.trans (hb1.mono hWz)
      have HP := Lib.hid (bytesof_any l d ys au cu (wr.alloc (.cells #[.bool l, .string ⟨d.toArray⟩, .slice au ys.length cu] 44)) ((hu.from_ hWu).mono hWu.size) q1 q2 q3)
      have HN := Lib.hid (M.bytesIs_nx hs)
      have HTL := Lib.hid (M.bytesIs_take xs (j + 1))
      have hj9 : j < 4000 := by omega
      have hlti : (j : Int) < xs.length := by omega
      have HB1 := Lib.hid hb1
      have HI := Lib.hid hI
      clear hs h0 h1 h2 hu q1 q2 q3 hI hWu hb1
      go_wp2_with fail
      refine HP.out.mono ?_
      rintro e w1 ⟨rfl, hb2⟩
      have hb12 := HB1.out.trans (hb2.mono HB1.out.size)
      have HI2 := HI.out.from_ hb12
      have HWS := Lib.hid (wstring_any h h _ (M.bytesI (.mk l d ys)) w1 HI2 (by rw [← List.length_append, ← HN.out]; have := HTL.out; have := HZ.out; omega) (by have := hb12.size; omega))
      clear c0 c1 c2 HI2
      go_wp2_with fail
      refine HWS.out.mono ?_
      rintro e w2 ⟨rfl, hI3, hb3⟩
      have hW2 : Below h w w2 := (hW.trans (hb12.mono hWz)).trans hb3
      have HI3 := Lib.hid hI3
      clear hb2 hb12 hb3 hI3
      go_wp2_with fail
      exact ⟨⟨j + 1, by omega, by simp, by rw [HN.out]; exact HI3.out, hW2⟩, by simp [RowKit.intOf]; omega⟩
    · obtain rfl : j = xs.length := by omega
      rw [List.take_length] at hI
      have HS := Lib.hid (bstring_any h h (M.bytesIs xs) wr hI hWz)
      clear hI
      go_wp2_with fail
      refine HS.out.mono ?_
      rintro e w1 ⟨rfl, hb1⟩
      go_wp2_with fail
      go_ret
      exact ⟨rfl, by rw [HH.out]; exact hW.trans hb1⟩

set_option maxRecDepth 100000 in
set_option maxHeartbeats 4000000 in
theorem joinedL_any (ls : List M.Lg) (a : Option Addr) (cap : Nat) (w : World) (hL : Ls w w.heap.size ls (.slice a ls.length cap)) (hl : ls.length ≤ 20) (hx : ∀ g ∈ ls, M.Short g) :
    Calls Tryz.prog 24 #[.slice a ls.length cap, .func (.func 25) #[] #[]] w fun e w' => e = .returned (.string ⟨(M.bytesIs (ls.map M.logI)).toArray⟩) ∧ Below w.heap.size w w' := by
  have E1 : ∀ args w, (callFunc 25 args).run Tryz.prog w = .ok (.enter 25 args) w := enters_of Tryz.func25 (by kernel_rfl) rfl
  obtain ⟨h, hh⟩ : ∃ h, w.heap.size = h := ⟨_, rfl⟩
  obtain ⟨w0, hw0⟩ : ∃ w0, w.alloc (.cells #[.pointer none, .slice none 0 0] 77) = w0 := ⟨_, rfl⟩
  have hb0 : Below h w w0 := by rw [← hw0, ← hh]; exact (Below.refl _ _).alloc (Nat.le_refl _) _
  have hI0 : IsB h h [] w0 := by rw [← hw0, ← hh]; exact IsB.new w
  have HL := Lib.hid hL
  have HX := Lib.hid hx
  have hlen : ∀ ls : List M.Lg, (∀ g ∈ ls, M.Short g) → (M.bytesIs (ls.map M.logI)).length ≤ ls.length * 6000 := fun ls => by
    induction ls with
    | nil => intro _; simp [M.bytesIs]
    | cons g ls ih =>
      intro hg
      have h1 := ih fun x hx => hg x (List.mem_cons_of_mem _ hx)
      have h2 := M.logI_len (hg g (by simp))
      rw [List.map_cons, M.bytesIs, List.length_append, List.length_cons, Nat.add_mul]
      omega
  have hz : (M.bytesIs (ls.map M.logI)).length ≤ 1000000 := by have := hlen ls hx; have : ls.length * 6000 ≤ 20 * 6000 := Nat.mul_le_mul_right _ hl; omega
  have HZ := Lib.hid hz
  have HW := Lib.hid hw0
  clear hL hx hz hw0 hlen
  go_enter Tryz.func24, Tryz.ntmps24
  go_wp2_with fail
  try rw [HW.out]
  try rw [hh]
  have HH := Lib.hid hh
  clear hh HW
  go_loopw [10] (fun i wr => ∃ j : Nat, j ≤ ls.length ∧ i = .int .i64 (j : Nat) ∧ IsB h h (M.bytesIs ((ls.map M.logI).take j)) wr ∧ Below h w wr) (fun i _ => ls.length - (RowKit.intOf i).toNat)
  case atStart => exact ⟨0, Nat.zero_le _, rfl, by simpa [M.bytesIs] using hI0, hb0⟩
  case round =>
    clear hI0 hb0
    obtain ⟨j, hj, rfl, hI, hW⟩ := hrel
    have hWz : h ≤ wr.heap.size := by have := hW.size; rw [HH.out] at this; exact this
    by_cases hlt : j < ls.length
    · obtain ⟨b, o, g, at_, ct, hv, hbn, hs, h0, h1, h2, hu⟩ := HL.out.at_ hlt
      subst hv
      rw [HH.out] at hbn
      have c0 := (hW.cell (p := ⟨b, o + j * 3, none⟩) hbn).trans h0
      have c1 := (hW.cell (p := ⟨b, o + j * 3 + 1, none⟩) hbn).trans h1
      have c2 := (hW.cell (p := ⟨b, o + j * 3 + 2, none⟩) hbn).trans h2
      have hb1 : Below wr.heap.size wr (wr.alloc (.cells #[.string ⟨g.addr.toArray⟩, .slice at_ g.topics.length ct, .string ⟨g.data.toArray⟩] 39)) := (Below.refl _ _).alloc (Nat.le_refl _) _
      have hWu : Below w.heap.size w (wr.alloc (.cells #[.string ⟨g.addr.toArray⟩, .slice at_ g.topics.length ct, .string ⟨g.data.toArray⟩] 39)) := by rw [HH.out]; exact hW.trans (hb1.mono hWz)
      have HP := Lib.hid (bytesoflog_any g at_ ct (wr.alloc (.cells #[.string ⟨g.addr.toArray⟩, .slice at_ g.topics.length ct, .string ⟨g.data.toArray⟩] 39)) (hu.kept_ hWu) (HX.out g (List.mem_of_getElem? hs)))
      have hms : (ls.map M.logI)[j]? = some (M.logI g) := by rw [List.getElem?_map, hs]; rfl
      have HN := Lib.hid (M.bytesIs_nx hms)
      have HTL := Lib.hid (M.bytesIs_take (ls.map M.logI) (j + 1))
      have hj9 : j < 4000 := by omega
      have hlti : (j : Int) < ls.length := by omega
      have HB1 := Lib.hid hb1
      have HI := Lib.hid hI
      clear hs h0 h1 h2 hu hI hWu hb1 hms
      go_wp2_with fail
      refine HP.out.mono ?_
      rintro e w1 ⟨rfl, hb2⟩
      have hb12 := HB1.out.trans (hb2.mono HB1.out.size)
      have HI2 := HI.out.from_ hb12
      have HWS := Lib.hid (wstring_any h h _ (M.bytesI (M.logI g)) w1 HI2 (by rw [← List.length_append, ← HN.out]; have := HTL.out; have := HZ.out; omega) (by have := hb12.size; omega))
      clear c0 c1 c2 HI2
      go_wp2_with fail
      refine HWS.out.mono ?_
      rintro e w2 ⟨rfl, hI3, hb3⟩
      have hW2 : Below h w w2 := (hW.trans (hb12.mono hWz)).trans hb3
      have HI3 := Lib.hid hI3
      clear hb2 hb12 hb3 hI3
      go_wp2_with fail
      exact ⟨⟨j + 1, by omega, by simp, by rw [HN.out]; exact HI3.out, hW2⟩, by simp [RowKit.intOf]; omega⟩
    · obtain rfl : j = ls.length := by omega
      have et : (ls.map M.logI).take ls.length = ls.map M.logI := by rw [List.take_of_length_le (by simp)]
      rw [et] at hI
      have HS := Lib.hid (bstring_any h h (M.bytesIs (ls.map M.logI)) wr hI hWz)
      clear hI et
      go_wp2_with fail
      refine HS.out.mono ?_
      rintro e w1 ⟨rfl, hb1⟩
      go_wp2_with fail
      go_ret
      exact ⟨rfl, by rw [HH.out]; exact hW.trans hb1⟩
end Go.Proofs.YtebjhbeaknokkaaGreatDoor
namespace Go.Proofs.YtebjhbeaknokkaaGreatDoor
open Go Go.RowKit Go.Lib Go.Shelf
attribute [local go_sem] Oper.semAt_some

theorem field_bytes (a b c : Value) (W : World) : (Instr.field 44 (.agg #[a, b, c]) 1).run Tryz.prog W = .ok b W := by
  simp [Instr.field, run_underlying Tryz.underlying44, part, isAgg, run_underlying Tryz.underlying9, asAgg, Result.andThen]
set_option maxRecDepth 100000 in
set_option maxHeartbeats 2000000 in
theorem listed_any (own : List UInt8) (w : World) (hl : own.length ≤ 1000000) : Calls Tryz.prog 23 #[.string ⟨own.toArray⟩] w fun e w' => e = .returned (.string ⟨(M.hdL own.length 192 ++ own).toArray⟩) ∧ Below w.heap.size w w' := by
  by_cases h : own.length < 56
  · have hi : (own.length : Int) < 56 := by omega
    obtain ⟨k, hk⟩ : ∃ k, 192 + own.length = k := ⟨_, rfl⟩
    have hk' : k < 256 := by omega
    have hki : (192 : Int) + (own.length : Int) = (k : Int) := by omega
    have e1 : M.hdL own.length 192 = [UInt8.ofNat k] := by unfold M.hdL; rw [if_pos h, hk]
    have hw8 : IntKind.u8.wrap (k : Int) = (k : Int) := by
      show (k : Int) % (2 ^ 8 : Int) = _
      omega
    rw [e1]
    clear e1 h
    go_enter Tryz.func23, Tryz.ntmps23
    go_wp2_with fail
    obtain ⟨W, hW⟩ : ∃ W, w.alloc (.cells #[.int .u8 k] 5) = W := ⟨_, rfl⟩
    have r1 : W.heap[w.heap.size]? = some (.cells #[.int .u8 k] 5 (0, 0)) := by rw [← hW]; exact heap_alloc_new _ _
    have hb : Below w.heap.size w W := by rw [← hW]; exact (Below.refl _ _).alloc (Nat.le_refl _) _
    have hcv := conv_at [UInt8.ofNat k] W w.heap.size (fun j hj => by
      have : j = 0 := by simpa using hj
      subst this
      simp only [World.cell?, r1]
      simp [Nat.mod_eq_of_lt hk'])
    rw [List.length_singleton] at hcv
    rw [hW, hcv]
    clear hW
    go_wp2_with fail
    go_ret
    exact ⟨by simp; apply ByteArray.ext; simp, hb⟩
  · have hi : ¬ (own.length : Int) < 56 := by omega
    have HN := Lib.hid (fun W => field_number own.length W (by omega))
    have hb8 : (M.ben own.length).length ≤ 8 := M.ben_le (by omega)
    have e1 : M.hdL own.length 192 = UInt8.ofNat (247 + (M.ben own.length).length) :: M.ben own.length := by unfold M.hdL; rw [if_neg h]
    have hu : (own.length : Int) % 18446744073709551616 = (own.length : Int) := by omega
    rw [e1]
    clear e1 h
    generalize M.ben own.length = r at *
    obtain ⟨k, hk⟩ : ∃ k, 247 + r.length = k := ⟨_, rfl⟩
    have hk' : k < 256 := by omega
    have hki : (247 : Int) + (r.length : Int) = (k : Int) := by omega
    rw [hk]
    have hw8 : IntKind.u8.wrap (k : Int) = (k : Int) := by
      show (k : Int) % (2 ^ 8 : Int) = _
      omega
    go_enter Tryz.func23, Tryz.ntmps23
    go_wp2_with fail
    refine (HN.out _).mono ?_
    rintro e w1 ⟨rfl, hb1⟩
    go_wp2_with fail
    rw [field_bytes]
    go_wp2_with fail
    obtain ⟨W, hW⟩ : ∃ W, w1.alloc (.cells #[.int .u8 k] 5) = W := ⟨_, rfl⟩
    have r1 : W.heap[w1.heap.size]? = some (.cells #[.int .u8 k] 5 (0, 0)) := by rw [← hW]; exact heap_alloc_new _ _
    have hb : Below w1.heap.size w1 W := by rw [← hW]; exact (Below.refl _ _).alloc (Nat.le_refl _) _
    have hcv := conv_at [UInt8.ofNat k] W w1.heap.size (fun j hj => by
      have : j = 0 := by simpa using hj
      subst this
      simp only [World.cell?, r1]
      simp [Nat.mod_eq_of_lt hk'])
    rw [List.length_singleton] at hcv
    rw [hW, hcv]
    clear hW
    go_wp2_with fail
    go_ret
    exact ⟨by simp; apply ByteArray.ext; simp, hb1.trans (hb.mono hb1.size)⟩
end Go.Proofs.YtebjhbeaknokkaaGreatDoor
namespace Go.Proofs.YtebjhbeaknokkaaGreatDoor
open Go Go.RowKit Go.Lib
namespace M
def partsR (x : Rc) : List It := [boolI x.st, textI (ben x.gas), listI (x.logs.map logI)] ++ [textI (ben x.nonce), textI (ben 1)].take (formR x)
def headR (k : Int) : List UInt8 := if k = 0 then [] else [UInt8.ofNat k.toNat]
def bytesR (x : Rc) : List UInt8 := headR x.kind ++ bytesI (listI (partsR x))
def encR (x : Rc) : List UInt8 × Nat := if chkR x = 0 then (bytesR x, 0) else ([], chkR x)
theorem chkR_ok {x : Rc} (h : chkR x = 0) : kdB x.kind = true ∧ formedR x = true ∧ longR x = false := by
  unfold chkR at h
  cases h1 : kdB x.kind <;> cases h2 : formedR x <;> cases h3 : longR x <;> simp_all
theorem chkR_zero {x : Rc} (h1 : kdB x.kind = true) (h2 : formedR x = true) (h3 : longR x = false) : chkR x = 0 := by
  unfold chkR
  simp [h1, h2, h3]
theorem kdB_ok {k : Int} (h : kdB k = true) : k = 0 ∨ k = 1 ∨ k = 2 ∨ k = 4 ∨ k = 126 := by
  unfold kdB at h
  simp at h
  omega
theorem chkR_logs {x : Rc} (h : chkR x = 0) : x.logs.length ≤ 16 ∧ ∀ g ∈ x.logs, g.addr.length = 20 ∧ (∀ t ∈ g.topics, t.length = 32) ∧ g.topics.length ≤ 4 ∧ g.data.length ≤ 4096 := by
  obtain ⟨_, h2, h3⟩ := chkR_ok h
  unfold longR at h3
  rw [Bool.or_eq_false_iff] at h3
  unfold formedR at h2
  simp only [Bool.and_eq_true] at h2
  have h4 : x.logs.any noLog = false := by simpa using h2.2.2
  refine ⟨by simpa using h3.1, fun g hg => ?_⟩
  have n1 := List.any_eq_false.1 h4 g hg
  have n2 := List.any_eq_false.1 h3.2 g hg
  unfold noLog at n1
  unfold longLog at n2
  simp at n1 n2
  exact ⟨n1.1, n1.2, by omega, by omega⟩
theorem chkR_short {x : Rc} (h : chkR x = 0) : ∀ g ∈ x.logs, Short g := fun g hg => by
  obtain ⟨h1, h2, h3, h4⟩ := (chkR_logs h).2 g hg
  exact ⟨by omega, h4, by omega, fun s hs => by rw [h2 s hs]; omega⟩
theorem logs_len : ∀ ls : List Lg, (∀ g ∈ ls, Short g) → (bytesIs (ls.map logI)).length ≤ ls.length * 6000
  | [], _ => by simp [bytesIs]
  | g :: ls, h => by
    have h1 := logs_len ls fun x hx => h x (List.mem_cons_of_mem _ hx)
    have h2 := logI_len (h g (by simp))
    rw [List.map_cons, bytesIs, List.length_append, List.length_cons, Nat.add_mul]
    omega
theorem ben_text {n : Nat} (h : n < 18446744073709551616) : (bytesI (textI (ben n))).length ≤ 17 := by
  have := textI_len (s := ben n) (by have := ben_le h; omega)
  have := ben_le h
  omega
theorem bytesIs_app (xs ys : List It) : bytesIs (xs ++ ys) = bytesIs xs ++ bytesIs ys := by
  induction xs with
  | nil => simp [bytesIs]
  | cons z l ih => rw [List.cons_append, bytesIs, bytesIs, ih, List.append_assoc]
theorem parts_len {x : Rc} (h : chkR x = 0) (hg : x.gas < 18446744073709551616) (hn : x.nonce < 18446744073709551616) : (bytesIs (partsR x)).length ≤ 100000 := by
  have h1 := logs_len x.logs (chkR_short h)
  have h0 := (chkR_logs h).1
  have h2 : x.logs.length * 6000 ≤ 16 * 6000 := Nat.mul_le_mul_right _ h0
  have h3 := listI_len (xs := x.logs.map logI) (by omega)
  have h4 := ben_text hg
  have h5 := bytesIs_take [textI (ben x.nonce), textI (ben 1)] (formR x)
  have h6 := ben_text hn
  have h7 := ben_text (n := 1) (by omega)
  have h8 : (bytesI (boolI x.st)).length ≤ 10 := by
    cases x.st
    · exact Nat.le_trans (textI_len (s := []) (by decide)) (by decide)
    · exact Nat.le_trans (textI_len (s := [1]) (by decide)) (by decide)
  unfold partsR
  rw [bytesIs_app]
  simp only [bytesIs, List.length_append, List.length_nil] at h5 ⊢
  omega
end M
theorem Lay.take {w : World} {n : Nat} {xs : List M.It} {b o m cap : Nat} (h : Lay w n xs (.slice (some ⟨b, o, none⟩) m cap)) (k : Nat) (hk : k ≤ xs.length) : Lay w n (xs.take k) (.slice (some ⟨b, o, none⟩) k cap) := by
  cases h with
  | nil_ hm =>
    obtain rfl : k = 0 := by simpa using hk
    exact .nil_ hm
  | row V hb hc hm c0 c1 c2 r =>
    have hat : ∀ i x, (xs.take k)[i]? = some x → xs[i]? = some x := fun i x e => by
      have hi : i < k := by
        have := (List.getElem?_eq_some_iff.1 e).1
        rw [List.length_take] at this
        omega
      rwa [List.getElem?_take_of_lt hi] at e
    have := Lay.row (w := w) (n := n) (xs := xs.take k) (b := b) (o := o) (cap := cap) V hb (by rw [List.length_take]; omega) hm
      (fun i l d ys e => c0 i l d ys (hat i _ e)) (fun i l d ys e => c1 i l d ys (hat i _ e)) (fun i l d ys e => c2 i l d ys (hat i _ e)) (fun i l d ys e => r i l d ys (hat i _ e))
    rwa [List.length_take, Nat.min_eq_left hk] at this
end Go.Proofs.YtebjhbeaknokkaaGreatDoor
namespace Go.Proofs.YtebjhbeaknokkaaGreatDoor
open Go Go.RowKit Go.Lib Go.Shelf
attribute [local go_sem] Oper.semAt_some

theorem M.sp_len {sb : List UInt8} {n : Nat} (hs : sb.length ≤ 1) (hn : n < 18446744073709551616) : ∀ s ∈ [sb, M.ben n], s.length ≤ 100 := fun s h => by
  have := M.ben_le hn
  simp only [List.mem_cons, List.not_mem_nil, or_false] at h
  rcases h with h | h
  · rw [h]; omega
  · rw [h]; omega
theorem M.sm_len {n : Nat} (hn : n < 18446744073709551616) : ∀ s ∈ [M.ben n, M.ben 1], s.length ≤ 100 := fun s h => by
  have := M.ben_le hn
  have := M.ben_le (n := 1) (by omega)
  simp only [List.mem_cons, List.not_mem_nil, or_false] at h
  rcases h with h | h
  · rw [h]; omega
  · rw [h]; omega
theorem M.pl_len {a b : List UInt8} (h : ∀ s ∈ [a, b], s.length ≤ 100) : (M.bytesIs [M.textI a, M.textI b]).length ≤ 1000 := by
  have := M.texts_len 100 (by omega) [a, b] h
  exact Nat.le_trans this (by show 2 * 109 ≤ 1000; decide)
theorem M.rl_len {a b : List UInt8} (f : Nat) (h : ∀ s ∈ [a, b], s.length ≤ 100) : (M.bytesIs (List.take f [M.textI a, M.textI b])).length ≤ 1000 :=
  Nat.le_trans (M.bytesIs_take [M.textI a, M.textI b] f) (M.pl_len h)
theorem M.q_len (l : List UInt8) (h : l.length ≤ 16 * 6000) : (M.hdL l.length 192 ++ l).length ≤ 200000 := by
  have := M.hdL_len (n := l.length) (p := 192) (by omega)
  rw [List.length_append]
  omega
theorem phead_any (k : Int) (w : World) (hk : k = 0 ∨ k = 1 ∨ k = 2 ∨ k = 4 ∨ k = 126) : Calls Tryz.prog 26 #[.int .i64 k] w fun e w' => e = .returned (.string ⟨(M.headR k).toArray⟩) ∧ Below w.heap.size w w' := by
  by_cases h0 : k = 0
  · subst h0
    exact rhead_nil w
  · obtain ⟨n, rfl⟩ : ∃ n : Nat, k = n := ⟨k.toNat, by omega⟩
    have := rhead_any n w (by omega) (by omega)
    have e : M.headR (n : Int) = [UInt8.ofNat n] := by unfold M.headR; rw [if_neg h0]; rfl
    rw [e]
    exact this
theorem M.q_len' (l : List UInt8) (h : l.length ≤ 100000) : (M.hdL l.length 192 ++ l).length ≤ 200000 := by
  have := M.hdL_len (n := l.length) (p := 192) (by omega)
  rw [List.length_append]
  omega
theorem joinedT_any (ts : List (List UInt8)) (a : Option Addr) (cap : Nat) (w : World) (hL : Lay w w.heap.size (ts.map M.textI) (.slice a ts.length cap)) (hl : ts.length ≤ 10) (hs : ∀ s ∈ ts, s.length ≤ 100) :
    Calls Tryz.prog 21 #[.slice a ts.length cap, .func (.func 22) #[] #[]] w fun e w' => e = .returned (.string ⟨(M.bytesIs (ts.map M.textI)).toArray⟩) ∧ Below w.heap.size w w' := by
  have h1 := M.texts_len 100 (by omega) ts hs
  have := joinedI_any (ts.map M.textI) a cap w (by rw [List.length_map]; exact hL) (by rw [List.length_map]; omega) (by omega) (fun l d ys hm => by
    obtain ⟨s, hsm, e⟩ := List.mem_map.1 hm
    unfold M.textI at e
    injection e with e1 e2 e3
    subst e1 e2 e3
    refine ⟨by decide, ?_, by simp [M.formI]⟩
    have h2 := hs s hsm
    have := M.textI_len (s := s) (by omega)
    exact Nat.le_trans this (by omega))
  rw [List.length_map] at this
  exact this
set_option maxRecDepth 100000 in
set_option maxHeartbeats 8000000 in
theorem pencode_any (x : M.Rc) (a : Option Addr) (cap : Nat) (w : World) (hF : FewL x.logs) (hg : x.gas < 18446744073709551616) (hn : x.nonce < 18446744073709551616) (hT : Ls w w.heap.size x.logs (.slice a x.logs.length cap)) :
    Calls Tryz.prog 9 #[rcv x (.slice a x.logs.length cap)] w fun e w' => e = .returned (.tuple #[.string ⟨(M.encR x).1.toArray⟩, .int .i64 ((M.encR x).2 : Nat)]) ∧ Below w.heap.size w w' := by
  have mixed : Tryz.prog.follows .mixedOrders = true := by kernel_rfl
  obtain ⟨w0, hw0⟩ : ∃ w0, w.alloc (.cells #[.int .i64 x.kind, .bool x.st, .int .u64 (x.gas : Nat), .slice a x.logs.length cap, .bool x.full, .int .u64 (x.nonce : Nat), .int .u64 (x.ver : Nat)] 25) = w0 := ⟨_, rfl⟩
  have hb0 : Below w.heap.size w w0 := by rw [← hw0]; exact (Below.refl _ _).alloc (Nat.le_refl _) _
  have hz0 : w0.heap.size = w.heap.size + 1 := by rw [← hw0]; simp
  have hr0 : RcBox w0 w.heap.size x (.slice a x.logs.length cap) := by rw [← hw0]; exact RcBox.new w x _ _
  have HR := Lib.hid (fun W (h : Below w0.heap.size w0 W) => hr0.from_ h (by omega))
  have HCk := Lib.hid (fun W (h : Below w0.heap.size w0 W) => pcheck_any x a cap W hF (hT.kept (hb0.trans (h.mono hb0.size))))
  have HT := Lib.hid (fun W (h : Below w0.heap.size w0 W) => hT.kept (hb0.trans (h.mono hb0.size)))
  have HW := Lib.hid hw0
  have HB := Lib.hid hb0
  clear hw0 hb0 hr0 hz0 hT
  by_cases hc : M.chkR x = 0
  · have hE : M.encR x = (M.bytesR x, 0) := by unfold M.encR; rw [if_pos hc]
    rw [hE]
    rw [hc] at HCk
    have hl16 := (M.chkR_logs hc).1
    have hsh := M.chkR_short hc
    have hkd := M.kdB_ok (M.chkR_ok hc).1
    have HPL := Lib.hid (M.parts_len hc hg hn)
    have HJL := Lib.hid (fun W (h : Below w0.heap.size w0 W) => joinedL_any x.logs a cap W (HT.out W h) (by omega) hsh)
    have hll := M.logs_len x.logs hsh
    have hlm : x.logs.length * 6000 ≤ 16 * 6000 := Nat.mul_le_mul_right _ hl16
    have HLI := Lib.hid (fun W => listed_any (M.bytesIs (x.logs.map M.logI)) W (by omega))
    have HFO := Lib.hid (fun W => form_any x.kind (x.gas : Int) (x.nonce : Int) (x.ver : Int) x.st x.full (.slice a x.logs.length cap) W)
    have hfr : (if x.full then if (x.ver : Int) = 0 then 1 else 2 else 0 : Int) = ((M.formR x : Nat) : Int) := by
      unfold M.formR
      cases x.full
      · rfl
      · by_cases hv : x.ver = 0
        · simp [hv]
        · have : ¬ (x.ver : Int) = 0 := by omega
          simp [hv]
    rw [hfr] at HFO
    have hf2 : M.formR x ≤ 2 := by
      unfold M.formR
      split
      · split <;> omega
      · omega
    have hbR : M.bytesR x = M.headR x.kind ++ (M.hdL (M.bytesIs (M.partsR x)).length 192 ++ M.bytesIs (M.partsR x)) := by unfold M.bytesR M.listI; rw [M.bytesI]
    have hpR : M.bytesIs (M.partsR x) = M.bytesIs [M.boolI x.st, M.textI (M.ben x.gas)] ++ (M.hdL (M.bytesIs (x.logs.map M.logI)).length 192 ++ M.bytesIs (x.logs.map M.logI)) ++ M.bytesIs ([M.textI (M.ben x.nonce), M.textI (M.ben 1)].take (M.formR x)) := by
      unfold M.partsR
      rw [M.bytesIs_app]
      simp only [M.bytesIs, M.listI, M.bytesI, List.append_nil, List.append_assoc]
    have HLP := Lib.hid (fun W => listed_any (M.bytesIs (M.partsR x)) W (by have := HPL.out; omega))
    have HHD := Lib.hid (fun W => phead_any x.kind W hkd)
    have hhl : (M.headR x.kind).length ≤ 1 := by unfold M.headR; split <;> simp
    have HFB := Lib.hid (fun W (_ : Below w0.heap.size w0 W) => field_bool x.st W)
    have HFN := Lib.hid (fun W (_ : Below w0.heap.size w0 W) => field_number x.gas W hg)
    have HFM := Lib.hid (fun W (_ : Below w0.heap.size w0 W) => field_number x.nonce W hn)
    have HF1 := Lib.hid (fun W (_ : Below w0.heap.size w0 W) => field_number 1 W (by omega))
    obtain ⟨i0, hi, hz0, hz1, hz2⟩ := info_parts Tryz.ofItem
    obtain ⟨sb, hsb⟩ : ∃ sb : List UInt8, (if x.st then [1] else []) = sb := ⟨_, rfl⟩
    rw [hsb] at HFB
    have hbi : M.boolI x.st = M.textI sb := by unfold M.boolI; rw [hsb]
    have hsl : sb.length ≤ 1 := by rw [← hsb]; cases x.st <;> decide
    rw [hbi] at hpR
    have HSP := Lib.hid (M.sp_len hsl hg)
    have HSM := Lib.hid (M.sm_len hn)
    have HPLN := Lib.hid (M.pl_len HSP.out)
    have HRLN := Lib.hid (M.rl_len (M.formR x) HSM.out)
    have HQ := Lib.hid (M.q_len (M.bytesIs (x.logs.map M.logI)) (Nat.le_trans hll hlm))
    rw [hbR]
    obtain ⟨own, hown⟩ : ∃ own, M.bytesIs (M.partsR x) = own := ⟨_, rfl⟩
    have hol := M.q_len' own (by rw [← hown]; exact HPL.out)
    rw [hown] at HLP hpR ⊢
    obtain ⟨T, hT⟩ : ∃ T, M.hdL own.length 192 ++ own = T := ⟨_, rfl⟩
    rw [hT] at HLP hol ⊢
    obtain ⟨P, hP⟩ : ∃ P, M.bytesIs [M.textI sb, M.textI (M.ben x.gas)] = P := ⟨_, rfl⟩
    rw [hP] at hpR HPLN
    obtain ⟨L, hL⟩ : ∃ L, M.bytesIs (x.logs.map M.logI) = L := ⟨_, rfl⟩
    rw [hL] at hpR HQ HJL HLI
    obtain ⟨Q, hQ⟩ : ∃ Q, M.hdL L.length 192 ++ L = Q := ⟨_, rfl⟩
    rw [hQ] at hpR HQ HLI
    obtain ⟨f, hf⟩ : ∃ f, M.formR x = f := ⟨_, rfl⟩
    rw [hf] at hpR HFO HRLN hf2
    obtain ⟨R, hR⟩ : ∃ R, M.bytesIs (List.take f [M.textI (M.ben x.nonce), M.textI (M.ben 1)]) = R := ⟨_, rfl⟩
    rw [hR] at hpR HRLN
    have HP := Lib.hid hP
    have HRR := Lib.hid hR
    have HOWN := Lib.hid hpR
    clear hT hown hP hL hQ hf hR hpR hsb hbi hc hE hl16 hsh hll hlm hfr hbR HPL hF
    obtain ⟨k, st, ga, ls, fu, no, ve⟩ := x
    go_enter Tryz.func9, Tryz.ntmps9
    go_wp2_with fail
    rw [HW.out]
    refine (HCk.out _ (Below.refl _ _)).mono ?_
    rintro e w1 ⟨rfl, B1⟩
    go_wp2_with fail
    refine wp_region_held (S := fun Y => Below w0.heap.size w0 Y) mixed ?_
    have hS0 : Below w0.heap.size w0 w1.drew := Below.drew B1
    rw [show Array.replicate (Array.size _) false = #[false, false, false, false, false, false, false, false] from rfl, show Array.size (α := Oper) _ = 8 from rfl]
    refine wpAnyH_take (i := 0) (v := .pointer (some ⟨w.heap.size, 1, none⟩)) rfl (by kernel_rfl) (by kernel_rfl) (by kernel_rfl) (fun _ _ _ h => h) (Or.inl ⟨by rfl, ?_⟩) hS0 ?_
    · intro Y hY
      skip
      go_simp
    simp only [Act.put, zqA, zqC, zqD, zqE, zqF]
    refine wpAnyH_take (i := 1) (v := .bool st) rfl (by kernel_rfl) (by kernel_rfl) (by kernel_rfl) (fun _ _ _ h => h) (Or.inl ⟨by rfl, ?_⟩) hS0 ?_
    · intro Y hY
      obtain ⟨a0, a1, a2, a3, a4, a5, a6⟩ := HR.out _ hY
      go_simp
    simp only [Act.put, zqA, zqB, zqC, zqD, zqE, zqF]
    refine wpAnyH_take (i := 3) (v := .pointer (some ⟨w.heap.size, 2, none⟩)) rfl (by kernel_rfl) (by kernel_rfl) (by kernel_rfl) (fun _ _ _ h => h) (Or.inl ⟨by rfl, ?_⟩) hS0 ?_
    · intro Y hY
      skip
      go_simp
    simp only [Act.put, zqA, zqB, zqC, zqD, zqE, zqF]
    refine wpAnyH_take (i := 4) (v := .int .u64 (ga : Nat)) rfl (by kernel_rfl) (by kernel_rfl) (by kernel_rfl) (fun _ _ _ h => h) (Or.inl ⟨by rfl, ?_⟩) hS0 ?_
    · intro Y hY
      obtain ⟨a0, a1, a2, a3, a4, a5, a6⟩ := HR.out _ hY
      go_simp
    simp only [Act.put, zqA, zqB, zqC, zqD, zqE, zqF]
    refine wpAnyH_ready (rs := [2]) (by kernel_rfl) (by simp) ?_
    refine AllReadyH.cons rfl (fun K hK => ?_) AllReadyH.nil
    go_simp
    refine (HFB.out _ hS0).mono ?_
    rintro e w2 ⟨rfl, hb2⟩
    have hS2 : Below w0.heap.size w0 w2 := hS0.trans (Below.mono hb2 hS0.size)
    try go_wp2_with fail
    refine hK.out _ _ hS2 (fun _ => ?_)
    clear hK K
    simp only [List.setIfInBounds_toArray, List.set_cons_zero, List.set_cons_succ]
    refine wpAnyH_ready (rs := [5]) (by kernel_rfl) (by simp) ?_
    refine AllReadyH.cons rfl (fun K hK => ?_) AllReadyH.nil
    go_simp
    refine (HFN.out _ hS2).mono ?_
    rintro e w3 ⟨rfl, hb3⟩
    have hS3 : Below w0.heap.size w0 w3 := hS2.trans (Below.mono hb3 hS2.size)
    try go_wp2_with fail
    refine hK.out _ _ hS3 (fun _ => ?_)
    clear hK K
    simp only [List.setIfInBounds_toArray, List.set_cons_zero, List.set_cons_succ]
    refine wpAnyH_ready (rs := [6]) (by kernel_rfl) (by simp) ?_
    refine AllReadyH.cons rfl (fun K hK => ?_) AllReadyH.nil
    rw [if_pos (by rfl)]
    refine wp_build_it2 _ _ false false sb (M.ben ga) _ _ i0 rfl rfl rfl hi hz0 hz1 ?_
    obtain ⟨w4, hw4⟩ : ∃ w4, w3.alloc (.cells #[.bool false, .string ⟨sb.toArray⟩, .slice none 0 0, .bool false, .string ⟨(M.ben ga).toArray⟩, .slice none 0 0] 44) = w4 := ⟨_, rfl⟩
    have hb34 : Below w3.heap.size w3 w4 := by rw [← hw4]; exact (Below.refl _ _).alloc (Nat.le_refl _) _
    have hS4 : Below w0.heap.size w0 w4 := hS3.trans (hb34.mono hS3.size)
    have hL4 : Lay w4 w4.heap.size [M.textI sb, M.textI (M.ben ga)] (.slice (some ⟨w3.heap.size, 0, none⟩) 2 2) := by
      have := lay_made w3 [(M.textI sb, .slice none 0 0), (M.textI (M.ben ga), .slice none 0 0)] (by
        intro p hp
        simp only [List.mem_cons, List.not_mem_nil, or_false] at hp
        rcases hp with rfl | rfl
        · exact .nil_ (by decide)
        · exact .nil_ (by decide)) (by show 2 ≤ maxLen; decide)
      rw [← hw4]
      exact this.mono (by simp)
    rw [hw4]
    have HL4 := Lib.hid hL4
    clear hw4 hL4
    refine hK.out _ _ hS4 (fun _ => ?_)
    clear hK K
    simp only [List.setIfInBounds_toArray, List.set_cons_zero, List.set_cons_succ]
    refine wpAnyH_take (i := 7) (v := .slice (some ⟨w3.heap.size, 0, none⟩) 2 2) rfl (by kernel_rfl) (by kernel_rfl) (by kernel_rfl) (fun _ _ _ h => h) (Or.inl ⟨by rfl, ?_⟩) hS4 ?_
    · intro Y hY
      skip
      go_simp
    simp only [Act.put, zqA, zqB, zqC, zqD, zqE, zqF]
    refine wpAnyH_done (by kernel_rfl) ?_ _
    clear hb2 hb3
    obtain ⟨a0, a1, a2, a3, a4, a5, a6⟩ := HR.out _ hS4
    go_wp2_with fail
    refine (HFM.out _ hS4).mono ?_
    rintro e w5 ⟨rfl, hb5⟩
    have hS5 := hS4.trans (hb5.mono hS4.size)
    clear a0 a1 a2 a3 a4 a5 a6
    go_wp2_with fail
    refine (HF1.out _ hS5).mono ?_
    rintro e w6 ⟨rfl, hb6⟩
    have hS6 := hS5.trans (hb6.mono hS5.size)
    go_wp2_with fail
    obtain ⟨w7, hw7⟩ : ∃ w7, w6.alloc (.cells #[.bool false, .string ⟨(M.ben no).toArray⟩, .slice none 0 0, .bool false, .string ⟨(M.ben 1).toArray⟩, .slice none 0 0] 44) = w7 := ⟨_, rfl⟩
    have hb67 : Below w6.heap.size w6 w7 := by rw [← hw7]; exact (Below.refl _ _).alloc (Nat.le_refl _) _
    have hS7 : Below w0.heap.size w0 w7 := hS6.trans (hb67.mono hS6.size)
    have hL7 : Lay w7 w7.heap.size [M.textI (M.ben no), M.textI (M.ben 1)] (.slice (some ⟨w6.heap.size, 0, none⟩) 2 2) := by
      have := lay_made w6 [(M.textI (M.ben no), .slice none 0 0), (M.textI (M.ben 1), .slice none 0 0)] (by
        intro p hp
        simp only [List.mem_cons, List.not_mem_nil, or_false] at hp
        rcases hp with rfl | rfl
        · exact .nil_ (by decide)
        · exact .nil_ (by decide)) (by show 2 ≤ maxLen; decide)
      rw [← hw7]
      exact this.mono (by simp)
    rw [hw7]
    clear hw7
    have hb47 : Below w4.heap.size w4 w7 := hb5.trans ((hb6.trans (hb67.mono hb6.size)).mono hb5.size)
    have HR7 := Lib.hid (fun Y (h : Below w7.heap.size w7 Y) => HR.out Y (hS7.trans (h.mono hS7.size)))
    have HJP := Lib.hid (fun Y (h : Below w7.heap.size w7 Y) => joinedT_any [sb, M.ben ga] (some ⟨w3.heap.size, 0, none⟩) 2 Y ((HL4.out.from_ (hb47.trans (h.mono hb47.size))).mono (hb47.trans (h.mono hb47.size)).size) (by show 2 ≤ 10; decide) HSP.out)
    have hft : ([M.ben no, M.ben 1].take (f)).length = f := by rw [List.length_take]; exact Nat.min_eq_left hf2
    have HJM := Lib.hid (fun Y (h : Below w7.heap.size w7 Y) => joinedT_any ([M.ben no, M.ben 1].take (f)) (some ⟨w6.heap.size, 0, none⟩) 2 Y (by
      have := ((hL7.from_ h).mono h.size).take (f) hf2
      rw [List.map_take, hft]
      exact this) (by rw [List.length_take]; exact Nat.le_trans (Nat.min_le_right _ _) (by show 2 ≤ 10; decide)) (fun s hs => HSM.out s (List.mem_of_mem_take hs)))
    have HJL7 := Lib.hid (fun Y (h : Below w7.heap.size w7 Y) => HJL.out Y (hS7.trans (h.mono hS7.size)))
    have HLI7 := Lib.hid (fun Y (_ : Below w7.heap.size w7 Y) => HLI.out Y)
    have HFO7 := Lib.hid (fun Y (_ : Below w7.heap.size w7 Y) => HFO.out Y)
    rw [List.map_take, hft] at HJM
    simp only [List.map_cons, List.map_nil, List.length_cons, List.length_nil, Nat.zero_add, Nat.reduceAdd] at HJP HJM
    rw [HP.out] at HJP
    rw [HRR.out] at HJM
    have HQL := HQ.out
    have HPL := HPLN.out
    have HRL := HRLN.out
    clear hft HJL HLI HFO HSP HSM hL7 HL4 HFB HFN HFM HF1 hb5 hb6 hb67 hb34 hb47 HP HRR
    have hf2' : (f : Int) ≤ 2 := by omega
    refine wp_region_held (S := fun Y => Below w7.heap.size w7 Y) mixed ?_
    have hS0 : Below w7.heap.size w7 w7.drew := Below.drew (Below.refl _ _)
    rw [show Array.replicate (Array.size _) false = #[false, false, false, false, false, false, false, false, false, false, false, false, false, false] from rfl, show Array.size (α := Oper) _ = 14 from rfl]
    refine wpAnyH_take (i := 0) (v := .slice (some ⟨w3.heap.size, 0, none⟩) 2 2) rfl (by kernel_rfl) (by kernel_rfl) (by kernel_rfl) (fun _ _ _ h => h) (Or.inl ⟨by rfl, ?_⟩) hS0 ?_
    · intro Y hY
      skip
      go_simp
    simp only [Act.put, zqA, zqC, zqD, zqE, zqF]
    refine wpAnyH_take (i := 2) (v := .pointer (some ⟨w.heap.size, 3, none⟩)) rfl (by kernel_rfl) (by kernel_rfl) (by kernel_rfl) (fun _ _ _ h => h) (Or.inl ⟨by rfl, ?_⟩) hS0 ?_
    · intro Y hY
      skip
      go_simp
    simp only [Act.put, zqA, zqB, zqC, zqD, zqE, zqF]
    refine wpAnyH_take (i := 3) (v := .slice a ls.length cap) rfl (by kernel_rfl) (by kernel_rfl) (by kernel_rfl) (fun _ _ _ h => h) (Or.inl ⟨by rfl, ?_⟩) hS0 ?_
    · intro Y hY
      obtain ⟨a0, a1, a2, a3, a4, a5, a6⟩ := HR7.out _ hY
      go_simp
    simp only [Act.put, zqA, zqB, zqC, zqD, zqE, zqF]
    refine wpAnyH_take (i := 7) (v := .slice (some ⟨w6.heap.size, 0, none⟩) 2 2) rfl (by kernel_rfl) (by kernel_rfl) (by kernel_rfl) (fun _ _ _ h => h) (Or.inl ⟨by rfl, ?_⟩) hS0 ?_
    · intro Y hY
      skip
      go_simp
    simp only [Act.put, zqA, zqB, zqC, zqD, zqE, zqF]
    refine wpAnyH_take (i := 8) (v := rcv ⟨k, st, ga, ls, fu, no, ve⟩ (.slice a ls.length cap)) rfl (by kernel_rfl) (by kernel_rfl) (by kernel_rfl) (fun _ _ _ h => h) (Or.inl ⟨by rfl, ?_⟩) hS0 ?_
    · intro Y hY
      obtain ⟨a0, a1, a2, a3, a4, a5, a6⟩ := HR7.out _ hY
      go_simp
    simp only [Act.put, zqA, zqB, zqC, zqD, zqE, zqF]
    refine wpAnyH_ready (rs := [1]) (by kernel_rfl) (by simp) ?_
    refine AllReadyH.cons rfl (fun K hK => ?_) AllReadyH.nil
    go_simp
    refine (HJP.out _ hS0).mono ?_
    rintro e w8 ⟨rfl, hb8⟩
    have hS8 : Below w7.heap.size w7 w8 := hS0.trans (Below.mono hb8 hS0.size)
    try go_wp2_with fail
    refine hK.out _ _ hS8 (fun _ => ?_)
    clear hK K
    simp only [List.setIfInBounds_toArray, List.set_cons_zero, List.set_cons_succ]
    refine wpAnyH_ready (rs := [4]) (by kernel_rfl) (by simp) ?_
    refine AllReadyH.cons rfl (fun K hK => ?_) AllReadyH.nil
    go_simp
    refine (HJL7.out _ hS8).mono ?_
    rintro e w9 ⟨rfl, hb9⟩
    have hS9 : Below w7.heap.size w7 w9 := hS8.trans (Below.mono hb9 hS8.size)
    try go_wp2_with fail
    refine hK.out _ _ hS9 (fun _ => ?_)
    clear hK K
    simp only [List.setIfInBounds_toArray, List.set_cons_zero, List.set_cons_succ]
    refine wpAnyH_ready (rs := [5]) (by kernel_rfl) (by simp) ?_
    refine AllReadyH.cons rfl (fun K hK => ?_) AllReadyH.nil
    go_simp
    refine (HLI7.out _ hS9).mono ?_
    rintro e w10 ⟨rfl, hb10⟩
    have hS10 : Below w7.heap.size w7 w10 := hS9.trans (Below.mono hb10 hS9.size)
    try go_wp2_with fail
    refine hK.out _ _ hS10 (fun _ => ?_)
    clear hK K
    simp only [List.setIfInBounds_toArray, List.set_cons_zero, List.set_cons_succ]
    refine wpAnyH_take (i := 6) (v := .string ⟨(P ++ Q).toArray⟩) rfl (by kernel_rfl) (by kernel_rfl) (by kernel_rfl) (fun _ _ _ h => h) (Or.inl ⟨by rfl, ?_⟩) hS10 ?_
    · intro Y hY
      skip
      go_simp
      rw [if_neg (by first | omega | (rw [List.length_append]; omega)), cat_eq]
      try rw [List.append_assoc]
    simp only [Act.put, zqA, zqB, zqC, zqD, zqE, zqF]
    refine wpAnyH_ready (rs := [9]) (by kernel_rfl) (by simp) ?_
    refine AllReadyH.cons rfl (fun K hK => ?_) AllReadyH.nil
    go_simp
    refine (HFO7.out _ hS10).mono ?_
    rintro e w11 ⟨rfl, hb11⟩
    have hS11 : Below w7.heap.size w7 w11 := hS10.trans (Below.mono hb11 hS10.size)
    try go_wp2_with fail
    refine hK.out _ _ hS11 (fun _ => ?_)
    clear hK K
    simp only [List.setIfInBounds_toArray, List.set_cons_zero, List.set_cons_succ]
    refine wpAnyH_take (i := 10) (v := .slice (some ⟨w6.heap.size, 0, none⟩) f 2) rfl (by kernel_rfl) (by kernel_rfl) (by kernel_rfl) (fun _ _ _ h => h) (Or.inl ⟨by rfl, ?_⟩) hS11 ?_
    · intro Y hY
      skip
      go_simp
    simp only [Act.put, zqA, zqB, zqC, zqD, zqE, zqF]
    refine wpAnyH_ready (rs := [11]) (by kernel_rfl) (by simp) ?_
    refine AllReadyH.cons rfl (fun K hK => ?_) AllReadyH.nil
    go_simp
    refine (HJM.out _ hS11).mono ?_
    rintro e w12 ⟨rfl, hb12⟩
    have hS12 : Below w7.heap.size w7 w12 := hS11.trans (Below.mono hb12 hS11.size)
    try go_wp2_with fail
    refine hK.out _ _ hS12 (fun _ => ?_)
    clear hK K
    simp only [List.setIfInBounds_toArray, List.set_cons_zero, List.set_cons_succ]
    refine wpAnyH_take (i := 12) (v := .string ⟨(P ++ Q ++ R).toArray⟩) rfl (by kernel_rfl) (by kernel_rfl) (by kernel_rfl) (fun _ _ _ h => h) (Or.inl ⟨by rfl, ?_⟩) hS12 ?_
    · intro Y hY
      skip
      go_simp
      rw [if_neg (by first | omega | (rw [List.length_append]; omega)), cat_eq]
      try rw [List.append_assoc]
    simp only [Act.put, zqA, zqB, zqC, zqD, zqE, zqF]
    refine wpAnyH_take (i := 13) (v := .string ⟨(P ++ Q ++ R).toArray⟩) rfl (by kernel_rfl) (by kernel_rfl) (by kernel_rfl) (fun _ _ _ h => h) (Or.inl ⟨by rfl, ?_⟩) hS12 ?_
    · intro Y hY
      skip
      go_simp
    simp only [Act.put, zqA, zqB, zqC, zqD, zqE, zqF]
    refine wpAnyH_done (by kernel_rfl) ?_ _
    have hS0w : Below w0.heap.size w0 w12 := hS7.trans (hS12.mono hS7.size)
    obtain ⟨a0, a1, a2, a3, a4, a5, a6⟩ := HR.out _ hS0w
    clear hb8 hb9 hb10 hb11 hb12 HJP HJM HJL7 HLI7 HFO7 HR7
    rw [← HOWN.out]
    clear HPLN HRLN HQ
    go_wp2_with fail
    refine (HHD.out _).mono ?_
    rintro e w13 ⟨rfl, hb13⟩
    have hS13 := hS0w.trans (hb13.mono hS0w.size)
    clear hb13 a0 a1 a2 a3 a4 a5 a6
    go_wp2_with fail
    refine (HLP.out _).mono ?_
    rintro e w14 ⟨rfl, hb14⟩
    go_wp2_with fail
    go_ret2
    exact ⟨by simp [cat_eq], HB.out.trans ((hS13.trans (hb14.mono hS13.size)).mono HB.out.size)⟩
  · have hE : M.encR x = ([], M.chkR x) := by unfold M.encR; rw [if_neg hc]
    have hne : (((M.chkR x : Nat) : Int) != 0) = true := by simp; omega
    rw [hE]
    clear hc hE
    generalize M.chkR x = q at *
    go_enter Tryz.func9, Tryz.ntmps9
    go_wp2_with fail
    rw [HW.out]
    refine (HCk.out _ (Below.refl _ _)).mono ?_
    rintro e w1 ⟨rfl, hb1⟩
    go_wp2_with fail
    go_ret2
    exact ⟨rfl, HB.out.trans (hb1.mono HB.out.size)⟩
end Go.Proofs.YtebjhbeaknokkaaGreatDoor
namespace Go.Proofs.YtebjhbeaknokkaaGreatDoor
open Go Go.RowKit Go.Shelf
theorem below_dN {n q : Nat} {w W : World} (h : Below n w W) : Below n w (W.drewN q) := ⟨h.os, h.tape, h.output, h.size, h.block⟩
namespace M
def sameL (g h : Lg) : Bool := (g.addr == h.addr) && ((g.topics == h.topics) && (g.data == h.data))
def sameLs : List Lg → List Lg → Bool
  | [], [] => true
  | g :: gs, h :: hs => sameL g h && sameLs gs hs
  | _, _ => false
def sameR (x y : Rc) : Bool := (x.kind == y.kind) && ((x.st == y.st) && ((x.gas == y.gas) && (sameLs x.logs y.logs && ((x.full == y.full) && ((x.nonce == y.nonce) && (x.ver == y.ver))))))
theorem sameL_iff {g h : Lg} : sameL g h = true ↔ g = h := by
  obtain ⟨a, t, d⟩ := g
  obtain ⟨a', t', d'⟩ := h
  simp [sameL]
theorem sameLs_iff : ∀ {gs hs : List Lg}, sameLs gs hs = true ↔ gs = hs
  | [], [] => by simp [sameLs]
  | [], _ :: _ => by simp [sameLs]
  | _ :: _, [] => by simp [sameLs]
  | g :: gs, h :: hs => by simp [sameLs, sameL_iff, sameLs_iff]
theorem sameR_iff {x y : Rc} : sameR x y = true ↔ x = y := by
  obtain ⟨a, b, c, d, e, f, g⟩ := x
  obtain ⟨a', b', c', d', e', f', g'⟩ := y
  simp [sameR, sameLs_iff]
theorem sameLs_no {gs hs : List Lg} {i : Nat} {g h : Lg} (h1 : gs[i]? = some g) (h2 : hs[i]? = some h) (hn : sameL g h = false) : sameLs gs hs = false := by
  cases e : sameLs gs hs with
  | false => rfl
  | true =>
    rw [sameLs_iff] at e
    subst e
    rw [h1] at h2
    cases h2
    rw [sameL_iff.2 rfl] at hn
    cases hn
end M

set_option maxRecDepth 100000 in
set_option maxHeartbeats 4000000 in
theorem equalS_any (ls ms : List (List UInt8)) (a : Option Addr) (ca : Nat) (b : Option Addr) (cb : Nat) (w : World) (hA : Ts w w.heap.size ls (.slice a ls.length ca)) (hB : Ts w w.heap.size ms (.slice b ms.length cb)) (hl : ls.length ≤ 4000) :
    Calls Tryz.prog 55 #[.slice a ls.length ca, .slice b ms.length cb] w fun e w' => e = .returned (.bool (ls == ms)) ∧ Below w.heap.size w w' := by
  have mixed : Tryz.prog.follows .mixedOrders = true := by kernel_rfl
  obtain ⟨R, hR⟩ : ∃ R, R = (ls == ms) := ⟨_, rfl⟩
  rw [← hR]
  by_cases hlen : ls.length = ms.length
  · have hne : ((ls.length : Int) != (ms.length : Int)) = false := by simp; omega
    have HLen := Lib.hid hlen
    have HRR := Lib.hid hR
    have HA := Lib.hid hA
    have HB := Lib.hid hB
    clear hlen hR hA hB
    go_enter Tryz.func55, Tryz.ntmps55
    go_wp2_with fail
    clear hne
    go_loopw [13] (fun i wr => ∃ j : Nat, j ≤ ls.length ∧ i = .int .i64 j ∧ ls.take j = ms.take j ∧ Below w.heap.size w wr) (fun i _ => ls.length - (RowKit.intOf i).toNat)
    case atStart => exact ⟨0, by omega, rfl, by simp, Below.refl _ _⟩
    case round =>
      obtain ⟨j, hj, rfl, hq, hW⟩ := hrel
      by_cases hlt : j < ls.length
      · obtain ⟨bb, o, x, rfl, hbn, hx, e0⟩ := HA.out.at_ hlt
        have hlt2 : j < ms.length := by have := HLen.out; omega
        obtain ⟨b', o', y, rfl, hbn', hy, e0'⟩ := HB.out.at_ hlt2
        have g0 := (hW.cell (p := ⟨bb, o + j, none⟩) hbn).trans e0
        have g1 := (hW.cell (p := ⟨b', o' + j, none⟩) hbn').trans e0'
        have hj9 : j < 4000 := by omega
        have hlti : (j : Int) < (ls.length : Int) := by omega
        have hlti2 : (j : Int) < (ms.length : Int) := by omega
        have HQ := Lib.hid hq
        have HX := Lib.hid hx
        have HY := Lib.hid hy
        clear hq e0 e0' hl hx hy
        by_cases hxy : x = y
        · subst hxy
          have HT : Hid (ls.take (j + 1) = ms.take (j + 1)) := by show _ = _; rw [List.take_add_one, List.take_add_one, HQ.out, HX.out, HY.out]
          go_wp2_with fail
          go_quiet (fail)
          go_wp2_with fail
          exact ⟨⟨j + 1, by omega, by simp, HT.out, below_dN hW⟩, by simp [RowKit.intOf]; omega⟩
        · have HR : Hid (R = false) := by
            show _ = _
            rw [HRR.out, beq_eq_false_iff_ne]
            intro e
            have h1 := HX.out
            rw [e, HY.out] at h1
            exact hxy (Option.some.inj h1).symm
          have hne : (x == y) = false := beq_eq_false_iff_ne.2 hxy
          clear hxy
          go_wp2_with fail
          go_quiet (fail)
          go_wp2_with fail
          go_ret
          exact ⟨by rw [HR.out]; rfl, below_dN hW⟩
      · obtain rfl : j = ls.length := by omega
        have HR : Hid (R = true) := by
          show _ = _
          rw [HRR.out]
          have h2 := HLen.out
          rw [List.take_length, h2, List.take_length] at hq
          rw [hq]
          simp
        clear hq
        go_wp2_with fail
        go_ret
        exact ⟨by rw [HR.out]; rfl, hW⟩
  · have hne : ((ls.length : Int) != (ms.length : Int)) = true := by simp; omega
    have HR : Hid (R = false) := by
      show _ = _
      rw [hR, beq_eq_false_iff_ne]
      intro e
      exact hlen (by rw [e])
    clear hlen hR
    go_enter Tryz.func55, Tryz.ntmps55
    go_wp2_with fail
    go_ret
    exact ⟨by rw [HR.out]; rfl, Below.refl _ _⟩
set_option maxRecDepth 100000 in
set_option maxHeartbeats 4000000 in
theorem sameLog_any (g h : M.Lg) (a : Option Addr) (ca : Nat) (b : Option Addr) (cb : Nat) (w : World) (hA : Ts w w.heap.size g.topics (.slice a g.topics.length ca)) (hB : Ts w w.heap.size h.topics (.slice b h.topics.length cb)) (hl : g.topics.length ≤ 4000) :
    Calls Tryz.prog 33 #[lgv g (.slice a g.topics.length ca), lgv h (.slice b h.topics.length cb)] w fun e w' => e = .returned (.bool (M.sameL g h)) ∧ Below w.heap.size w w' := by
  obtain ⟨w0, hw0⟩ : ∃ w0, (w.alloc (.cells #[.string ⟨g.addr.toArray⟩, .slice a g.topics.length ca, .string ⟨g.data.toArray⟩] 39)).alloc (.cells #[.string ⟨h.addr.toArray⟩, .slice b h.topics.length cb, .string ⟨h.data.toArray⟩] 39) = w0 := ⟨_, rfl⟩
  have hb0 : Below w.heap.size w w0 := by rw [← hw0]; (repeat (first | exact Below.refl _ _ | refine Below.drew ?_ | refine Below.alloc ?_ (by first | omega | (simp; omega) | simp) _ | refine Below.setCell ?_ (by first | omega | (simp; omega) | simp) _))
  have hz : w0.heap.size = w.heap.size + 2 := by rw [← hw0]; simp
  have hx0 : LgBox w0 w.heap.size g (.slice a g.topics.length ca) := by rw [← hw0]; exact (LgBox.new w g _ _).from_ (n := w.heap.size + 1) ((Below.refl _ _).alloc (by simp) _) (by omega)
  have hy0 : LgBox w0 (w.heap.size + 1) h (.slice b h.topics.length cb) := by
    rw [← hw0]
    have := LgBox.new (w.alloc (.cells #[.string ⟨g.addr.toArray⟩, .slice a g.topics.length ca, .string ⟨g.data.toArray⟩] 39)) h (.slice b h.topics.length cb) 39
    rwa [World.size_alloc] at this
  have HE := Lib.hid (equalS_any g.topics h.topics a ca b cb w0 (hA.kept_ hb0) (hB.kept_ hb0) hl)
  have hM : M.sameL g h = ((g.addr == h.addr) && ((g.topics == h.topics) && (g.data == h.data))) := rfl
  rw [hM]
  have HB := Lib.hid hb0
  have HW := Lib.hid hw0
  have HX := Lib.hid (fun W (hh : Below w0.heap.size w0 W) => hx0.from_ hh (by omega))
  have HY := Lib.hid (fun W (hh : Below w0.heap.size w0 W) => hy0.from_ hh (by omega))
  generalize (g.topics == h.topics) = q2 at *
  obtain ⟨q1, hq1⟩ : ∃ q, (g.addr == h.addr) = q := ⟨_, rfl⟩
  obtain ⟨q3, hq3⟩ : ∃ q, (g.data == h.data) = q := ⟨_, rfl⟩
  rw [hq1, hq3]
  clear hb0 hw0 hx0 hy0 hA hB hM hz
  cases q1 with
  | false =>
    go_enter Tryz.func33, Tryz.ntmps33
    go_wp2_with fail
    try rw [HW.out]
    go_ret
    exact ⟨rfl, HB.out⟩
  | true =>
    go_enter Tryz.func33, Tryz.ntmps33
    go_wp2_with fail
    rw [HW.out]
    refine HE.out.mono ?_
    rintro e w1 ⟨rfl, hb1⟩
    obtain ⟨a0, a1, a2⟩ := HX.out _ hb1
    obtain ⟨b0, b1, b2⟩ := HY.out _ hb1
    cases q2 with
    | false =>
      go_wp2_with fail
      go_ret
      exact ⟨rfl, HB.out.trans (hb1.mono HB.out.size)⟩
    | true =>
      go_wp2_with fail
      go_ret
      exact ⟨by simp, HB.out.trans (hb1.mono HB.out.size)⟩
end Go.Proofs.YtebjhbeaknokkaaGreatDoor
namespace Go.Proofs.YtebjhbeaknokkaaGreatDoor
open Go Go.RowKit Go.Shelf
theorem M.sameLs_len {gs hs : List M.Lg} (h : gs.length ≠ hs.length) : M.sameLs gs hs = false := by
  cases e : M.sameLs gs hs with
  | false => rfl
  | true => rw [M.sameLs_iff] at e; exact absurd (by rw [e]) h

set_option maxRecDepth 100000 in
set_option maxHeartbeats 4000000 in
theorem equalL_any (ls ms : List M.Lg) (a : Option Addr) (ca : Nat) (b : Option Addr) (cb : Nat) (w : World) (hA : Ls w w.heap.size ls (.slice a ls.length ca)) (hB : Ls w w.heap.size ms (.slice b ms.length cb)) (hF : FewL ls) :
    Calls Tryz.prog 32 #[.slice a ls.length ca, .slice b ms.length cb, .func (.func 33) #[] #[]] w fun e w' => e = .returned (.bool (M.sameLs ls ms)) ∧ Below w.heap.size w w' := by
  have E1 : ∀ args w, (callFunc 33 args).run Tryz.prog w = .ok (.enter 33 args) w := enters_of Tryz.func33 (by kernel_rfl) rfl
  obtain ⟨R, hR⟩ : ∃ R, R = M.sameLs ls ms := ⟨_, rfl⟩
  rw [← hR]
  obtain ⟨hl, hts⟩ := hF
  by_cases hlen : ls.length = ms.length
  · have hne : ((ls.length : Int) != (ms.length : Int)) = false := by simp; omega
    have HLen := Lib.hid hlen
    have HRR := Lib.hid hR
    have HA := Lib.hid hA
    have HB := Lib.hid hB
    have HTS := Lib.hid hts
    clear hlen hR hA hB hts
    go_enter Tryz.func32, Tryz.ntmps32
    go_wp2_with fail
    clear hne
    go_loopw [17] (fun i wr => ∃ j : Nat, j ≤ ls.length ∧ i = .int .i64 j ∧ ls.take j = ms.take j ∧ Below w.heap.size w wr) (fun i _ => ls.length - (RowKit.intOf i).toNat)
    case atStart => exact ⟨0, by omega, rfl, by simp, Below.refl _ _⟩
    case round =>
      obtain ⟨j, hj, rfl, hq, hW⟩ := hrel
      by_cases hlt : j < ls.length
      · obtain ⟨bb, o, g, at1, ct1, rfl, hbn, hx, h0, h1, h2, hT1⟩ := HA.out.at_ hlt
        have hlt2 : j < ms.length := by have := HLen.out; omega
        obtain ⟨b', o', h, at2, ct2, rfl, hbn', hy, k0, k1, k2, hT2⟩ := HB.out.at_ hlt2
        have c0 := (hW.cell (p := ⟨bb, o + j * 3, none⟩) hbn).trans h0
        have c1 := (hW.cell (p := ⟨bb, o + j * 3 + 1, none⟩) hbn).trans h1
        have c2 := (hW.cell (p := ⟨bb, o + j * 3 + 2, none⟩) hbn).trans h2
        have hz1 := hW.size
        obtain ⟨wa, hwa⟩ : ∃ wa, wr.alloc (.cells #[.string ⟨g.addr.toArray⟩, .slice at1 g.topics.length ct1, .string ⟨g.data.toArray⟩] 39) = wa := ⟨_, rfl⟩
        have hba : Below wr.heap.size wr wa := by rw [← hwa]; exact (Below.refl _ _).alloc (Nat.le_refl _) _
        have hWa : Below w.heap.size w wa := hW.trans (hba.mono hW.size)
        have d0 : (wr.alloc (.cells #[.string ⟨g.addr.toArray⟩, .slice at1 g.topics.length ct1, .string ⟨g.data.toArray⟩] 39)).cell? ⟨b', o' + j * 3, none⟩ = some (.string ⟨h.addr.toArray⟩) := by rw [hwa]; exact (hWa.cell (p := ⟨b', o' + j * 3, none⟩) hbn').trans k0
        have d1 : (wr.alloc (.cells #[.string ⟨g.addr.toArray⟩, .slice at1 g.topics.length ct1, .string ⟨g.data.toArray⟩] 39)).cell? ⟨b', o' + j * 3 + 1, none⟩ = some (.slice at2 h.topics.length ct2) := by rw [hwa]; exact (hWa.cell (p := ⟨b', o' + j * 3 + 1, none⟩) hbn').trans k1
        have d2 : (wr.alloc (.cells #[.string ⟨g.addr.toArray⟩, .slice at1 g.topics.length ct1, .string ⟨g.data.toArray⟩] 39)).cell? ⟨b', o' + j * 3 + 2, none⟩ = some (.string ⟨h.data.toArray⟩) := by rw [hwa]; exact (hWa.cell (p := ⟨b', o' + j * 3 + 2, none⟩) hbn').trans k2
        obtain ⟨wb, hwb⟩ : ∃ wb, (wr.alloc (.cells #[.string ⟨g.addr.toArray⟩, .slice at1 g.topics.length ct1, .string ⟨g.data.toArray⟩] 39)).alloc (.cells #[.string ⟨h.addr.toArray⟩, .slice at2 h.topics.length ct2, .string ⟨h.data.toArray⟩] 39) = wb := ⟨_, rfl⟩
        have hbb : Below w.heap.size w wb := by rw [← hwb, hwa]; exact hWa.alloc hWa.size _
        have HS := Lib.hid (sameLog_any g h at1 ct1 at2 ct2 wb (hT1.kept_ hbb) (hT2.kept_ hbb) (HTS.out g (List.mem_of_getElem? hx)))
        have HWB := Lib.hid hwb
        have HBB := Lib.hid hbb
        have hj9 : j < 4000 := by omega
        have hlti : (j : Int) < (ls.length : Int) := by omega
        have hlti2 : (j : Int) < (ms.length : Int) := by omega
        have HQ := Lib.hid hq
        have HX := Lib.hid hx
        have HY := Lib.hid hy
        clear hq hx hy h0 h1 h2 k0 k1 k2 hT1 hT2 hwa hba hWa hwb hbb hz1 hl
        cases hs : M.sameL g h with
        | true =>
          have hgh := M.sameL_iff.1 hs
          have HT : Hid (ls.take (j + 1) = ms.take (j + 1)) := by show _ = _; rw [List.take_add_one, List.take_add_one, HQ.out, HX.out, HY.out, hgh]
          rw [hs] at HS
          clear hs hgh
          go_wp2_with fail
          rw [HWB.out]
          refine HS.out.mono ?_
          rintro e w1 ⟨rfl, hb1⟩
          clear c0 c1 c2 d0 d1 d2
          go_wp2_with fail
          exact ⟨⟨j + 1, by omega, by simp, HT.out, HBB.out.trans (hb1.mono HBB.out.size)⟩, by simp [RowKit.intOf]; omega⟩
        | false =>
          have HR : Hid (R = false) := by show _ = _; rw [HRR.out]; exact M.sameLs_no HX.out HY.out hs
          rw [hs] at HS
          clear hs
          go_wp2_with fail
          rw [HWB.out]
          refine HS.out.mono ?_
          rintro e w1 ⟨rfl, hb1⟩
          clear c0 c1 c2 d0 d1 d2
          go_wp2_with fail
          go_ret
          exact ⟨by rw [HR.out]; rfl, HBB.out.trans (hb1.mono HBB.out.size)⟩
      · obtain rfl : j = ls.length := by omega
        have HR : Hid (R = true) := by
          show _ = _
          rw [HRR.out]
          have h2 := HLen.out
          rw [List.take_length, h2, List.take_length] at hq
          rw [hq]
          exact M.sameLs_iff.2 rfl
        clear hq
        go_wp2_with fail
        go_ret
        exact ⟨by rw [HR.out]; rfl, hW⟩
  · have hne : ((ls.length : Int) != (ms.length : Int)) = true := by simp; omega
    have HR : Hid (R = false) := by
      show _ = _
      rw [hR]
      exact M.sameLs_len hlen
    clear hlen hR hts hl
    go_enter Tryz.func32, Tryz.ntmps32
    go_wp2_with fail
    go_ret
    exact ⟨by rw [HR.out]; rfl, Below.refl _ _⟩
set_option maxRecDepth 100000 in
set_option maxHeartbeats 8000000 in
theorem psame_any (x y : M.Rc) (a : Option Addr) (ca : Nat) (b : Option Addr) (cb : Nat) (w : World) (hA : Ls w w.heap.size x.logs (.slice a x.logs.length ca)) (hB : Ls w w.heap.size y.logs (.slice b y.logs.length cb)) (hF : FewL x.logs) :
    Calls Tryz.prog 14 #[rcv x (.slice a x.logs.length ca), rcv y (.slice b y.logs.length cb)] w fun e w' => e = .returned (.bool (M.sameR x y)) ∧ Below w.heap.size w w' := by
  obtain ⟨w0, hw0⟩ : ∃ w0, (w.alloc (.cells #[.int .i64 x.kind, .bool x.st, .int .u64 (x.gas : Nat), .slice a x.logs.length ca, .bool x.full, .int .u64 (x.nonce : Nat), .int .u64 (x.ver : Nat)] 25)).alloc (.cells #[.int .i64 y.kind, .bool y.st, .int .u64 (y.gas : Nat), .slice b y.logs.length cb, .bool y.full, .int .u64 (y.nonce : Nat), .int .u64 (y.ver : Nat)] 25) = w0 := ⟨_, rfl⟩
  have hb0 : Below w.heap.size w w0 := by rw [← hw0]; (repeat (first | exact Below.refl _ _ | refine Below.drew ?_ | refine Below.alloc ?_ (by first | omega | (simp; omega) | simp) _ | refine Below.setCell ?_ (by first | omega | (simp; omega) | simp) _))
  have hz : w0.heap.size = w.heap.size + 2 := by rw [← hw0]; simp
  have hx0 : RcBox w0 w.heap.size x (.slice a x.logs.length ca) := by rw [← hw0]; exact (RcBox.new w x _ _).from_ (n := w.heap.size + 1) ((Below.refl _ _).alloc (by simp) _) (by omega)
  have hy0 : RcBox w0 (w.heap.size + 1) y (.slice b y.logs.length cb) := by
    rw [← hw0]
    have := RcBox.new (w.alloc (.cells #[.int .i64 x.kind, .bool x.st, .int .u64 (x.gas : Nat), .slice a x.logs.length ca, .bool x.full, .int .u64 (x.nonce : Nat), .int .u64 (x.ver : Nat)] 25)) y (.slice b y.logs.length cb) 25
    rwa [World.size_alloc] at this
  have HE := Lib.hid (equalL_any x.logs y.logs a ca b cb w0 (hA.kept hb0) (hB.kept hb0) hF)
  have HB := Lib.hid hb0
  have HW := Lib.hid hw0
  have HX := Lib.hid (fun W (hh : Below w0.heap.size w0 W) => hx0.from_ hh (by omega))
  have HY := Lib.hid (fun W (hh : Below w0.heap.size w0 W) => hy0.from_ hh (by omega))
  clear hb0 hw0 hx0 hy0 hA hB hz hF
  obtain ⟨k, st, ga, ls, fu, no, ve⟩ := x
  obtain ⟨k2, st2, ga2, ls2, fu2, no2, ve2⟩ := y
  have hM : M.sameR ⟨k, st, ga, ls, fu, no, ve⟩ ⟨k2, st2, ga2, ls2, fu2, no2, ve2⟩ = ((k == k2) && ((st == st2) && ((ga == ga2) && (M.sameLs ls ls2 && ((fu == fu2) && ((no == no2) && (ve == ve2))))))) := rfl
  rw [hM]
  dsimp only at *
  have n1 : ((ga : Int) == (ga2 : Int)) = (ga == ga2) := by rw [Bool.eq_iff_iff, beq_iff_eq, beq_iff_eq]; omega
  have n2 : ((no : Int) == (no2 : Int)) = (no == no2) := by rw [Bool.eq_iff_iff, beq_iff_eq, beq_iff_eq]; omega
  have n3 : ((ve : Int) == (ve2 : Int)) = (ve == ve2) := by rw [Bool.eq_iff_iff, beq_iff_eq, beq_iff_eq]; omega
  generalize M.sameLs ls ls2 = q4 at *
  obtain ⟨q1, hq1⟩ : ∃ q, (k == k2) = q := ⟨_, rfl⟩
  obtain ⟨q2, hq2⟩ : ∃ q, (st == st2) = q := ⟨_, rfl⟩
  obtain ⟨q3, hq3⟩ : ∃ q, (ga == ga2) = q := ⟨_, rfl⟩
  obtain ⟨q5, hq5⟩ : ∃ q, (fu == fu2) = q := ⟨_, rfl⟩
  obtain ⟨q6, hq6⟩ : ∃ q, (no == no2) = q := ⟨_, rfl⟩
  obtain ⟨q7, hq7⟩ : ∃ q, (ve == ve2) = q := ⟨_, rfl⟩
  rw [hq3] at n1
  rw [hq6] at n2
  rw [hq7] at n3
  rw [hq1, hq2, hq3, hq5, hq6, hq7]
  clear hq3 hq6 hq7 hM
  cases q1 with
  | false =>
    go_enter Tryz.func14, Tryz.ntmps14
    go_wp2_with fail
    try rw [HW.out]
    go_ret
    exact ⟨rfl, HB.out⟩
  | true =>
  cases q2 with
  | false =>
    go_enter Tryz.func14, Tryz.ntmps14
    go_wp2_with fail
    try rw [HW.out]
    go_ret
    exact ⟨rfl, HB.out⟩
  | true =>
  cases q3 with
  | false =>
    go_enter Tryz.func14, Tryz.ntmps14
    go_wp2_with fail
    try rw [HW.out]
    go_ret
    exact ⟨rfl, HB.out⟩
  | true =>
    go_enter Tryz.func14, Tryz.ntmps14
    go_wp2_with fail
    rw [HW.out]
    refine HE.out.mono ?_
    rintro e w1 ⟨rfl, hb1⟩
    obtain ⟨a0, a1, a2, a3, a4, a5, a6⟩ := HX.out _ hb1
    obtain ⟨b0, b1, b2, b3, b4, b5, b6⟩ := HY.out _ hb1
    cases q4 with
    | false =>
      go_wp2_with fail
      go_ret
      exact ⟨by simp, HB.out.trans (hb1.mono HB.out.size)⟩
    | true =>
    cases q5 with
    | false =>
      go_wp2_with fail
      go_ret
      exact ⟨by simp, HB.out.trans (hb1.mono HB.out.size)⟩
    | true =>
    cases q6 with
    | false =>
      go_wp2_with fail
      go_ret
      exact ⟨by simp, HB.out.trans (hb1.mono HB.out.size)⟩
    | true =>
      go_wp2_with fail
      go_ret
      exact ⟨by simp, HB.out.trans (hb1.mono HB.out.size)⟩
end Go.Proofs.YtebjhbeaknokkaaGreatDoor
namespace Go.Proofs.YtebjhbeaknokkaaGreatDoor
open Go Go.RowKit Go.Lib
attribute [local go_sem] Oper.semAt_some

def RS (w : World) (b e : Nat) : Prop := ∃ v, w.heap[b]? = some (.cells #[v] 62 (0, 0)) ∧ ((e = 0 ∧ v = .nilIface) ∨ (e ≠ 0 ∧ ∃ s, v = .iface 137 (.agg #[.string s, .int .i64 e])))
structure But (b : Nat) (w w' : World) : Prop where
  os : w'.os = w.os
  tape : w'.tape = w.tape
  output : w'.output = w.output
  size : w.heap.size ≤ w'.heap.size
  block : ∀ k, k < w.heap.size → k ≠ b → w'.heap[k]? = w.heap[k]?
theorem But.of {b : Nat} {w w' : World} (h : Below w.heap.size w w') : But b w w' := ⟨h.os, h.tape, h.output, h.size, fun k hk _ => h.block k hk⟩
theorem But.refl (b : Nat) (w : World) : But b w w := ⟨rfl, rfl, rfl, Nat.le_refl _, fun _ _ _ => rfl⟩
theorem But.trans {b : Nat} {u v w : World} (h : But b u v) (k : But b v w) : But b u w :=
  ⟨k.os.trans h.os, k.tape.trans h.tape, k.output.trans h.output, Nat.le_trans h.size k.size, fun i hi hb => (k.block i (Nat.lt_of_lt_of_le hi h.size) hb).trans (h.block i hi hb)⟩
theorem But.below {b : Nat} {w w' : World} (h : But b w w') (hb : b ≤ w.heap.size) : Below b w w' :=
  ⟨h.os, h.tape, h.output, h.size, fun k hk => h.block k (by omega) (by omega)⟩
theorem But.cell {b : Nat} {w w' : World} (h : But b w w') {p : Addr} (hp : p.block < w.heap.size) (hn : p.block ≠ b) : w'.cell? p = w.cell? p := World.cell?_of_block (w := w) (h.block p.block hp hn)
theorem RS.lt {w : World} {b e : Nat} (h : RS w b e) : b < w.heap.size := by
  obtain ⟨v, h, _⟩ := h
  exact (Array.getElem?_eq_some_iff.1 h).1
theorem RS.kept {w w' : World} {b e : Nat} (h : RS w b e) (hb : Below w.heap.size w w') : RS w' b e := by
  have hl := h.lt
  obtain ⟨v, h, q⟩ := h
  exact ⟨v, (hb.block b hl).trans h, q⟩
theorem RS.frz {w : World} {b e : Nat} (h : RS w b e) : w.frozen? ⟨b, 0, none⟩ = false := by
  obtain ⟨v, h, _⟩ := h
  simp [World.frozen?, h]
theorem RS.zero {w : World} {b : Nat} (h : RS w b 0) : w.cell? ⟨b, 0, none⟩ = some .nilIface := by
  obtain ⟨v, h, ⟨_, rfl⟩ | ⟨q, _⟩⟩ := h
  · simp [World.cell?, h]
  · exact absurd rfl q
theorem RS.held {w : World} {b e : Nat} (h : RS w b e) (he : e ≠ 0) : ∃ s, w.cell? ⟨b, 0, none⟩ = some (.iface 137 (.agg #[.string s, .int .i64 e])) := by
  obtain ⟨v, h, ⟨q, _⟩ | ⟨_, s, rfl⟩⟩ := h
  · exact absurd q he
  · exact ⟨s, by simp [World.cell?, h]⟩
theorem RS.one {w : World} {b e o : Nat} (h : RS w b e) : (∀ s, w.cell? ⟨b, o, none⟩ ≠ some (.string s)) ∧ ∀ l, w.cell? ⟨b, o, none⟩ ≠ some (.bool l) := by
  obtain ⟨v, h, q⟩ := h
  have hv : (∀ s, v ≠ .string s) ∧ ∀ l, v ≠ .bool l := by
    rcases q with ⟨_, rfl⟩ | ⟨_, s, rfl⟩
    · exact ⟨nofun, nofun⟩
    · exact ⟨nofun, nofun⟩
  cases o with
  | zero =>
    refine ⟨fun s hs => hv.1 s ?_, fun l hs => hv.2 l ?_⟩ <;> simpa [World.cell?, h] using hs
  | succ o => refine ⟨fun s hs => ?_, fun l hs => ?_⟩ <;> simp [World.cell?, h] at hs
theorem Ts.but {w w' : World} {b e n : Nat} {ls : List (List UInt8)} {v : Value} (h : Ts w n ls v) (hn : n ≤ w.heap.size) (hS : RS w b e) (hb : But b w w') : Ts w' n ls v := by
  cases h with
  | nil_ hm => exact .nil_ hm
  | @row _ g o cap hlt hc hm c =>
    cases ls with
    | nil => exact .nil_ hm
    | cons s ls =>
      have hne : g ≠ b := fun q => (q ▸ hS).one.1 _ (c 0 s rfl)
      exact .row hlt hc hm fun i s e => (hb.cell (p := ⟨_, _, _⟩) (by show g < _; omega) hne).trans (c i s e)
theorem Lay.but {w w' : World} {b e n : Nat} {xs : List M.It} {v : Value} (h : Lay w n xs v) (hn : n ≤ w.heap.size) (hS : RS w b e) (hb : But b w w') : Lay w' n xs v := by
  induction h with
  | nil_ hm => exact .nil_ hm
  | @row xs g o cap V hlt hc hm c0 c1 c2 _ ih =>
    cases xs with
    | nil => exact .nil_ hm
    | cons x xs =>
      obtain ⟨l, d, ys⟩ := x
      have hne : g ≠ b := fun q => (q ▸ hS).one.2 _ (c0 0 l d ys rfl)
      have hg : g < w.heap.size := by omega
      exact .row V hlt hc hm (fun i l d ys e => (hb.cell (p := ⟨_, _, _⟩) hg hne).trans (c0 i l d ys e)) (fun i l d ys e => (hb.cell (p := ⟨_, _, _⟩) hg hne).trans (c1 i l d ys e)) (fun i l d ys e => (hb.cell (p := ⟨_, _, _⟩) hg hne).trans (c2 i l d ys e)) ih
theorem Lay.butk {w w' : World} {b e : Nat} {xs : List M.It} {v : Value} (h : Lay w w.heap.size xs v) (hS : RS w b e) (hb : But b w w') : Lay w' w'.heap.size xs v := (h.but (Nat.le_refl _) hS hb).mono hb.size
theorem Ts.butk {w w' : World} {b e : Nat} {ls : List (List UInt8)} {v : Value} (h : Ts w w.heap.size ls v) (hS : RS w b e) (hb : But b w w') : Ts w' w'.heap.size ls v := (h.but (Nat.le_refl _) hS hb).mono hb.size
theorem Rd.butk {w w' : World} {b e : Nat} {l : Bool} {d : List UInt8} {xs : List M.It} {a : Option Addr} {cap : Nat} (h : Rd w l d xs a cap) (hS : RS w b e) (hb : But b w w') : Rd w' l d xs a cap := ⟨h.1.butk hS hb, h.2⟩
theorem Ls.butk {w w' : World} {b e : Nat} {ls : List M.Lg} {v : Value} (h : Ls w w.heap.size ls v) (hS : RS w b e) (hb : But b w w') : Ls w' w'.heap.size ls v := by
  cases h with
  | nil_ hm => exact .nil_ hm
  | @row _ g o cap V hlt hc hm c0 c1 c2 r =>
    cases ls with
    | nil => exact .nil_ hm
    | cons x xs =>
      have hne : g ≠ b := fun q => (q ▸ hS).one.1 _ (c0 0 x rfl)
      exact .row V (Nat.lt_of_lt_of_le hlt hb.size) hc hm (fun i l e => (hb.cell (p := ⟨_, _, _⟩) hlt hne).trans (c0 i l e)) (fun i l e => (hb.cell (p := ⟨_, _, _⟩) hlt hne).trans (c1 i l e)) (fun i l e => (hb.cell (p := ⟨_, _, _⟩) hlt hne).trans (c2 i l e)) fun i l e => (r i l e).butk hS hb
theorem RS.put {w : World} {b e n : Nat} (h : RS w b e) (hn : n ≠ 0) (part : ByteArray) : RS (w.setCell ⟨b, 0, none⟩ (.iface 137 (.agg #[.string part, .int .i64 n]))) b n ∧ But b w (w.setCell ⟨b, 0, none⟩ (.iface 137 (.agg #[.string part, .int .i64 n]))) := by
  obtain ⟨v, h, _⟩ := h
  refine ⟨⟨_, ?_, .inr ⟨hn, part, rfl⟩⟩, rfl, rfl, rfl, by simp [World.setCell], fun k hk hb => Below.heap_setCell _ _ _ _ hb⟩
  rw [setCell_eq_setRow w b 0 #[v] _ (0, 0) _ h]
  exact setRow_heap w b #[v] _ _ (0, 0) h
theorem RdPost.st {b n : Nat} {part : ByteArray} {w w' : World} (h : RdPost b part n w w') (hS : RS w b 0) : RS w' b n ∧ But b w w' := by
  rcases h with ⟨rfl, h⟩ | ⟨hn, W, h, rfl⟩
  · exact ⟨hS.kept h, .of h⟩
  · obtain ⟨h1, h2⟩ := (hS.kept h).put hn part
    exact ⟨h1, (But.of h).trans h2⟩
theorem rd_bool (b e0 : Nat) (part : ByteArray) (l : Bool) (d : List UInt8) (a : Option Addr) (k cap : Nat) (v : Value) (n : Nat) (g : FuncId) (caps : Array Value) (w : World) (hS : RS w b e0)
    (E1 : ∀ args W, (callFunc g args).run Tryz.prog W = .ok (.enter g args) W)
    (HG : Hid (∀ W, Below w.heap.size w W → Calls Tryz.prog g (#[.agg #[.bool l, .string ⟨d.toArray⟩, .slice a k cap]] ++ caps) W fun e w' => e = .returned (.tuple #[v, .int .i64 n]) ∧ Below W.heap.size W w')) :
    Calls Tryz.prog 62 #[.pointer (some ⟨b, 0, none⟩), .string part, .agg #[.bool l, .string ⟨d.toArray⟩, .slice a k cap], .func (.func g) #[] caps] w fun e w' => e = .returned (if e0 = 0 then v else .bool false) ∧ RS w' b (if e0 = 0 then n else e0) ∧ But b w w' := by
  by_cases h0 : e0 = 0
  · subst h0
    rw [if_pos rfl, if_pos rfl]
    refine (read_bool b part l d a k cap v n g caps w hS.zero hS.frz E1 HG).mono ?_
    rintro e w' ⟨rfl, h⟩
    exact ⟨rfl, h.st hS⟩
  · rw [if_neg h0, if_neg h0]
    obtain ⟨s, hs⟩ := hS.held h0
    refine (readw_bool b part s _ l d a k cap _ w hs).mono ?_
    rintro e w' ⟨rfl, h⟩
    exact ⟨rfl, hS.kept h, .of h⟩
theorem rd_u64 (b e0 : Nat) (part : ByteArray) (l : Bool) (d : List UInt8) (a : Option Addr) (k cap : Nat) (v : Value) (n : Nat) (g : FuncId) (caps : Array Value) (w : World) (hS : RS w b e0)
    (E1 : ∀ args W, (callFunc g args).run Tryz.prog W = .ok (.enter g args) W)
    (HG : Hid (∀ W, Below w.heap.size w W → Calls Tryz.prog g (#[.agg #[.bool l, .string ⟨d.toArray⟩, .slice a k cap]] ++ caps) W fun e w' => e = .returned (.tuple #[v, .int .i64 n]) ∧ Below W.heap.size W w')) :
    Calls Tryz.prog 64 #[.pointer (some ⟨b, 0, none⟩), .string part, .agg #[.bool l, .string ⟨d.toArray⟩, .slice a k cap], .func (.func g) #[] caps] w fun e w' => e = .returned (if e0 = 0 then v else .int .u64 0) ∧ RS w' b (if e0 = 0 then n else e0) ∧ But b w w' := by
  by_cases h0 : e0 = 0
  · subst h0
    rw [if_pos rfl, if_pos rfl]
    refine (read_u64 b part l d a k cap v n g caps w hS.zero hS.frz E1 HG).mono ?_
    rintro e w' ⟨rfl, h⟩
    exact ⟨rfl, h.st hS⟩
  · rw [if_neg h0, if_neg h0]
    obtain ⟨s, hs⟩ := hS.held h0
    refine (readw_u64 b part s _ l d a k cap _ w hs).mono ?_
    rintro e w' ⟨rfl, h⟩
    exact ⟨rfl, hS.kept h, .of h⟩
theorem rd_str (b e0 : Nat) (part : ByteArray) (l : Bool) (d : List UInt8) (a : Option Addr) (k cap : Nat) (v : Value) (n : Nat) (g : FuncId) (caps : Array Value) (w : World) (hS : RS w b e0)
    (E1 : ∀ args W, (callFunc g args).run Tryz.prog W = .ok (.enter g args) W)
    (HG : Hid (∀ W, Below w.heap.size w W → Calls Tryz.prog g (#[.agg #[.bool l, .string ⟨d.toArray⟩, .slice a k cap]] ++ caps) W fun e w' => e = .returned (.tuple #[v, .int .i64 n]) ∧ Below W.heap.size W w')) :
    Calls Tryz.prog 106 #[.pointer (some ⟨b, 0, none⟩), .string part, .agg #[.bool l, .string ⟨d.toArray⟩, .slice a k cap], .func (.func g) #[] caps] w fun e w' => e = .returned (if e0 = 0 then v else .string ⟨#[]⟩) ∧ RS w' b (if e0 = 0 then n else e0) ∧ But b w w' := by
  by_cases h0 : e0 = 0
  · subst h0
    rw [if_pos rfl, if_pos rfl]
    refine (read_str b part l d a k cap v n g caps w hS.zero hS.frz E1 HG).mono ?_
    rintro e w' ⟨rfl, h⟩
    exact ⟨rfl, h.st hS⟩
  · rw [if_neg h0, if_neg h0]
    obtain ⟨s, hs⟩ := hS.held h0
    refine (readw_str b part s _ l d a k cap _ w hs).mono ?_
    rintro e w' ⟨rfl, h⟩
    exact ⟨rfl, hS.kept h, .of h⟩
set_option maxRecDepth 100000 in
set_option maxHeartbeats 2000000 in
theorem rd_list (b e0 : Nat) (part : ByteArray) (l : Bool) (d : List UInt8) (a : Option Addr) (k cap : Nat) (P : Value → World → Prop) (n : Nat) (g : FuncId) (caps : Array Value) (w : World) (hS : RS w b e0)
    (HP : Hid (∀ v W, P v W → ∀ W', But b W W' → RS W b 0 → P v W'))
    (HZ : Hid (e0 ≠ 0 → ∀ W, P (.slice none 0 0) W))
    (E1 : ∀ args W, (callFunc g args).run Tryz.prog W = .ok (.enter g args) W)
    (HG : Hid (e0 = 0 → ∀ W, Below w.heap.size w W → Calls Tryz.prog g (#[.agg #[.bool l, .string ⟨d.toArray⟩, .slice a k cap]] ++ caps) W fun e w' => (∃ v, e = .returned (.tuple #[v, .int .i64 n]) ∧ P v w') ∧ Below W.heap.size W w')) :
    Calls Tryz.prog 99 #[.pointer (some ⟨b, 0, none⟩), .string part, .agg #[.bool l, .string ⟨d.toArray⟩, .slice a k cap], .func (.func g) #[] caps] w fun e w' => (∃ v, e = .returned v ∧ P v w') ∧ RS w' b (if e0 = 0 then n else e0) ∧ But b w w' := by
  by_cases h0 : e0 = 0
  · subst h0
    rw [if_pos rfl]
    replace HG := Lib.hid (HG.out rfl)
    have hw := hS.zero
    have hfz := hS.frz
    have hbl := addr_lt hw
    have hw0 : ∀ o, (w.alloc o).cell? ⟨b, 0, none⟩ = some .nilIface := fun o => by rw [World.cell?_alloc_lt _ _ ⟨b, 0, none⟩ hbl]; exact hw
    have hb0 := (Below.refl w.heap.size w).alloc (Nat.le_refl _) (.cells #[.bool l, .string ⟨d.toArray⟩, .slice a k cap] 44)
    have HS := Lib.hid hS
    clear hS HZ
    by_cases hn : n = 0
    · subst hn
      go_enter Tryz.func99, Tryz.ntmps99
      go_wp2_with fail
      refine (HG.out _ hb0).mono ?_
      rintro e W ⟨⟨v, rfl, hP⟩, hb⟩
      go_wp2_with fail
      go_ret
      have hbb := hb0.trans (hb.mono hb0.size)
      exact ⟨⟨v, rfl, hP⟩, HS.out.kept hbb, .of hbb⟩
    · have hn1 : ((n : Int) == 0) = false := by simp [hn]
      have hnx : ¬ (n : Int) = 0 := by omega
      go_enter Tryz.func99, Tryz.ntmps99
      go_wp2_with fail
      refine (HG.out _ hb0).mono ?_
      rintro e W ⟨⟨v, rfl, hP⟩, hb⟩
      have hbb := hb0.trans (hb.mono hb0.size)
      have hw1 := (hbb.cell (p := ⟨b, 0, none⟩) hbl).trans hw
      have hf1 := (hbb.frozen (p := ⟨b, 0, none⟩) hbl).trans hfz
      have HQ := Lib.hid hP
      clear hb hP
      go_wp2_with fail
      go_ret
      have hk := HS.out.kept hbb
      obtain ⟨q1, q2⟩ := hk.put hn part
      exact ⟨⟨v, rfl, HP.out _ _ HQ.out _ q2 hk⟩, q1, (But.of hbb).trans q2⟩
  · rw [if_neg h0]
    obtain ⟨s, hs⟩ := hS.held h0
    refine (readw_list b part s _ l d a k cap _ w hs).mono ?_
    rintro e w' ⟨rfl, h⟩
    exact ⟨⟨_, rfl, HZ.out h0 _⟩, hS.kept h, .of h⟩
end Go.Proofs.YtebjhbeaknokkaaGreatDoor
namespace Go.Proofs.YtebjhbeaknokkaaGreatDoor
open Go Go.RowKit

def headZ (s : List UInt8) (k : Int) : M.Hd := if k < 0 then M.hdErr 1 else M.headL s k.toNat
def HeadOk : Prop := ∀ (s : List UInt8) (k : Int) (W : World), s.length ≤ 200000 → Calls Tryz.prog 177 #[.string ⟨s.toArray⟩, .int .i64 k] W fun e w' =>
  e = .returned (.tuple #[.int .i64 ((headZ s k).off : Nat), .int .i64 ((headZ s k).n : Nat), .bool (headZ s k).list, .int .i64 ((headZ s k).e : Nat)]) ∧ Below W.heap.size W w'
end Go.Proofs.YtebjhbeaknokkaaGreatDoor
