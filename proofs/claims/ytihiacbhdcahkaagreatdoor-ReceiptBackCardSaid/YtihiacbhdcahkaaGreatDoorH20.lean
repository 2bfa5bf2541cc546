/- Package receipt: the bytes of an item, of a log. strings.Builder: what is written to it, and what it holds; package receipt: what is written of things, one behind the other. Package receipt: joined, of items and of logs; listed. Package receipt: listed. -/
import Derived.Test.YtihiacbhdcahkaaGreatDoorH16
import Derived.Test.YtihiacbhdcahkaaGreatDoorH19
import Derived.OrdersHeld
import Derived.Deep.RegionHeld
import Derived.Great.BuildSlice
import Derived.Test.YtihiacbhdcahkaaGreatDoorSh
import Derived.Shelf.Strings.Builder1
import Derived.Test.YtihiacbhdcahkaaGreatDoorH06
import Derived.Test.YtihiacbhdcahkaaGreatDoorH02
namespace Go.Proofs.YtihiacbhdcahkaaGreatDoor
open Go Go.RowKit Go.Lib
attribute [local go_sem] Oper.semAt_some

theorem fill_it2 {n : Nat} (hn : n = 3) (l0 l1 : Bool) (d0 d1 : List UInt8) (v0 v1 : Value) : Instr.fill (fun i => some (i * n, n)) ((Array.range (2 * n)).map ((Value.agg #[.bool false, .string ⟨#[]⟩, .slice none 0 0]).cells[· % (Value.agg #[.bool false, .string ⟨#[]⟩, .slice none 0 0]).cells.size]!)) [(0, iv l0 d0 v0), (1, iv l1 d1 v1)] = some #[.bool l0, .string ⟨d0.toArray⟩, v0, .bool l1, .string ⟨d1.toArray⟩, v1] := by
  subst hn
  rw [show Array.range (2 * 3) = #[0, 1, 2, 3, 4, 5] from rfl]
  have hc : ∀ cs, (Value.agg cs).cells = cs := fun _ => rfl
  simp [Instr.fill, iv, hc]
theorem fill_it3 {n : Nat} (hn : n = 3) (l0 l1 l2 : Bool) (d0 d1 d2 : List UInt8) (v0 v1 v2 : Value) : Instr.fill (fun i => some (i * n, n)) ((Array.range (3 * n)).map ((Value.agg #[.bool false, .string ⟨#[]⟩, .slice none 0 0]).cells[· % (Value.agg #[.bool false, .string ⟨#[]⟩, .slice none 0 0]).cells.size]!)) [(0, iv l0 d0 v0), (1, iv l1 d1 v1), (2, iv l2 d2 v2)] = some #[.bool l0, .string ⟨d0.toArray⟩, v0, .bool l1, .string ⟨d1.toArray⟩, v1, .bool l2, .string ⟨d2.toArray⟩, v2] := by
  subst hn
  rw [show Array.range (3 * 3) = #[0, 1, 2, 3, 4, 5, 6, 7, 8] from rfl]
  have hc : ∀ cs, (Value.agg cs).cells = cs := fun _ => rfl
  simp [Instr.fill, iv, hc]
/-- A slice literal of two items; of three. -/
theorem wp_build_it2 {o : Oper} {a : Act} {w : World} {K : Act → World → Prop} {Q : Exit → Act → World → Prop} (x0 x1 : Operand) (l0 l1 : Bool) (d0 d1 : List UInt8) (v0 v1 : Value) (i0 : TypeInfo) (ho : o.op = .buildSlice 43 2 #[(0, x0), (1, x1)]) (e0 : a.eval x0 = iv l0 d0 v0) (e1 : a.eval x1 = iv l1 d1 v1)
    (hi : Tryz.prog.info? 45 = some i0) (hz0 : i0.zero = some (.agg #[.bool false, .string ⟨#[]⟩, .slice none 0 0])) (hz1 : i0.size = 3)
    (h : K (a.put o.dst (.slice (some ⟨w.heap.size, 0, none⟩) 2 2)) (w.alloc (.cells #[.bool l0, .string ⟨d0.toArray⟩, v0, .bool l1, .string ⟨d1.toArray⟩, v1] 45))) : o.wp Tryz.prog a w K Q := by
  refine wp_buildSlice 43 45 2 _ ho _ i0 _ Tryz.underlying43 hi hz0 (by rw [hz1]; decide) (by rw [hz1]; decide) ?_ h
  have := fill_it2 hz1 l0 l1 d0 d1 v0 v1
  simpa [e0, e1] using this
theorem wp_build_it3 {o : Oper} {a : Act} {w : World} {K : Act → World → Prop} {Q : Exit → Act → World → Prop} (x0 x1 x2 : Operand) (l0 l1 l2 : Bool) (d0 d1 d2 : List UInt8) (v0 v1 v2 : Value) (i0 : TypeInfo) (ho : o.op = .buildSlice 43 3 #[(0, x0), (1, x1), (2, x2)]) (e0 : a.eval x0 = iv l0 d0 v0) (e1 : a.eval x1 = iv l1 d1 v1) (e2 : a.eval x2 = iv l2 d2 v2)
    (hi : Tryz.prog.info? 45 = some i0) (hz0 : i0.zero = some (.agg #[.bool false, .string ⟨#[]⟩, .slice none 0 0])) (hz1 : i0.size = 3)
    (h : K (a.put o.dst (.slice (some ⟨w.heap.size, 0, none⟩) 3 3)) (w.alloc (.cells #[.bool l0, .string ⟨d0.toArray⟩, v0, .bool l1, .string ⟨d1.toArray⟩, v1, .bool l2, .string ⟨d2.toArray⟩, v2] 45))) : o.wp Tryz.prog a w K Q := by
  refine wp_buildSlice 43 45 3 _ ho _ i0 _ Tryz.underlying43 hi hz0 (by rw [hz1]; decide) (by rw [hz1]; decide) ?_ h
  have := fill_it3 hz1 l0 l1 l2 d0 d1 d2 v0 v1 v2
  simpa [e0, e1, e2] using this
/-- A row of items that has just been made. -/
theorem lay_made (w : World) (L : List (M.It × Value)) (h : ∀ p ∈ L, Lay w w.heap.size (kids p.1) p.2) (hm : L.length ≤ maxLen) :
    Lay (w.alloc (.cells (L.flatMap c3).toArray 45)) (w.heap.size + 1) (L.map (·.1)) (.slice (some ⟨w.heap.size, 0, none⟩) L.length L.length) := by
  have hrow := heap_alloc_new w (.cells (L.flatMap c3).toArray 45)
  have hcell : ∀ j u, (L.flatMap c3)[j]? = some u → (w.alloc (.cells (L.flatMap c3).toArray 45)).cell? ⟨w.heap.size, 0 + j, none⟩ = some u := fun j u hu => by
    generalize w.alloc (.cells (L.flatMap c3).toArray 45) = W at hrow
    simp [World.cell?, hrow, hu]
  have hat : ∀ i l d ys, (L.map (·.1))[i]? = some (M.It.mk l d ys) → ∃ u, L[i]? = some (M.It.mk l d ys, u) := fun i l d ys e => by
    rw [List.getElem?_map] at e
    cases hl : L[i]? with
    | none => rw [hl] at e; cases e
    | some p =>
      rw [hl] at e
      obtain ⟨x, u⟩ := p
      simp at e
      subst e
      exact ⟨u, hl⟩
  have hb : Below w.heap.size w (w.alloc (.cells (L.flatMap c3).toArray 45)) := (Below.refl _ _).alloc (Nat.le_refl _) _
  have key := Lay.row (w := w.alloc (.cells (L.flatMap c3).toArray 45)) (n := w.heap.size + 1) (xs := L.map (·.1)) (b := w.heap.size) (o := 0) (cap := L.length) (fun i => ((L[i]?).map (·.2)).getD Go.undef) (by omega) (by simp) hm
    (fun i l d ys e => by
      obtain ⟨u, hu⟩ := hat i l d ys e
      exact hcell _ _ (flat_at L i l d ys u hu).1)
    (fun i l d ys e => by
      obtain ⟨u, hu⟩ := hat i l d ys e
      have := hcell _ _ (flat_at L i l d ys u hu).2.1
      simpa [Nat.add_assoc] using this)
    (fun i l d ys e => by
      obtain ⟨u, hu⟩ := hat i l d ys e
      have := hcell _ _ (flat_at L i l d ys u hu).2.2
      simpa [Nat.add_assoc, hu] using this)
    (fun i l d ys e => by
      obtain ⟨u, hu⟩ := hat i l d ys e
      have := ((h _ (List.mem_of_getElem? hu)).from_ hb).mono (Nat.le_succ _)
      simpa [hu, kids] using this)
  rw [List.length_map] at key
  exact key
/-- How long what is written of texts may be. -/
theorem M.hdL_len {n p : Nat} (hn : n < 18446744073709551616) : (M.hdL n p).length ≤ 9 := by
  unfold M.hdL
  split
  · simp
  · have := M.ben_le hn
    simp; omega
theorem M.textI_len {s : List UInt8} (h : s.length < 18446744073709551616) : (M.bytesI (M.textI s)).length ≤ s.length + 9 := by
  unfold M.textI
  rw [M.bytesI]
  split
  · omega
  · rw [List.length_append]
    have := M.hdL_len (n := s.length) (p := 128) h
    omega
theorem M.listI_len {xs : List M.It} (h : (M.bytesIs xs).length < 18446744073709551616) : (M.bytesI (M.listI xs)).length ≤ (M.bytesIs xs).length + 9 := by
  unfold M.listI
  rw [M.bytesI, List.length_append]
  have := M.hdL_len (n := (M.bytesIs xs).length) (p := 192) h
  omega
theorem M.texts_len (k : Nat) (hk : k < 100000) : ∀ ts : List (List UInt8), (∀ s ∈ ts, s.length ≤ k) → (M.bytesIs (ts.map M.textI)).length ≤ ts.length * (k + 9)
  | [], _ => by simp [M.bytesIs]
  | s :: ts, h => by
    have h1 := M.texts_len k hk ts fun x hx => h x (List.mem_cons_of_mem _ hx)
    have h2 := h s (by simp)
    have h3 := M.textI_len (s := s) (by omega)
    rw [List.map_cons, M.bytesIs, List.length_append, List.length_cons, Nat.add_mul]
    omega
theorem M.formIs_texts (d : Nat) : ∀ ts : List (List UInt8), M.formIs d (ts.map M.textI) = 0
  | [] => by simp [M.formIs]
  | s :: ts => by
    rw [List.map_cons, M.formIs, M.formIs_texts d ts]
    simp [M.textI, M.formI]
theorem M.formI_texts (d : Nat) (hd : d < 12) (ts : List (List UInt8)) (h : ts.length ≤ 512) : M.formI d (M.textsI ts) = 0 := by
  unfold M.textsI
  rw [M.formI, if_neg (by simp), if_neg (by simp), if_neg (by omega), if_neg (by rw [List.length_map]; omega)]
  exact M.formIs_texts _ ts
theorem M.cnt_texts : ∀ ts : List (List UInt8), M.cntIs (ts.map M.textI) = ts.length
  | [] => rfl
  | s :: ts => by
    rw [List.map_cons, M.cntIs, M.cnt_texts ts, List.length_cons]
    simp [M.textI, M.cntI, M.cntIs]
    omega
theorem M.sm_texts : ∀ ts : List (List UInt8), (∀ s ∈ ts, s.length ≤ 140737488355328) → M.smIs (ts.map M.textI)
  | [], _ => trivial
  | s :: ts, h => ⟨⟨h s (by simp), trivial⟩, M.sm_texts ts fun x hx => h x (List.mem_cons_of_mem _ hx)⟩
/-- A log as an item. -/
def M.logI (g : M.Lg) : M.It := M.listI [M.textI g.addr, M.textsI g.topics, M.textI g.data]
/-- Logs that are short. -/
structure M.Short (g : M.Lg) : Prop where
  a : g.addr.length ≤ 100
  d : g.data.length ≤ 4096
  t : g.topics.length ≤ 10
  s : ∀ s ∈ g.topics, s.length ≤ 100
theorem M.logI_len {g : M.Lg} (h : M.Short g) : (M.bytesI (M.logI g)).length ≤ 6000 := by
  have e1 := M.textI_len (s := g.addr) (by have := h.a; omega)
  have e2 := M.textI_len (s := g.data) (by have := h.d; omega)
  have e3 := M.texts_len 100 (by omega) g.topics h.s
  have e4 : (M.bytesI (M.textsI g.topics)).length ≤ (M.bytesIs (g.topics.map M.textI)).length + 9 := M.listI_len (by have := h.t; omega)
  have h1 := h.a
  have h2 := h.d
  have h3 := h.t
  have e5 : (M.bytesIs [M.textI g.addr, M.textsI g.topics, M.textI g.data]).length ≤ 5900 := by
    simp only [M.bytesIs, List.length_append, List.length_nil]
    omega
  have := M.listI_len (xs := [M.textI g.addr, M.textsI g.topics, M.textI g.data]) (by omega)
  unfold M.logI
  omega
theorem M.logI_form {g : M.Lg} (h : g.topics.length ≤ 10) (d : Nat) (hd : d ≤ 9) : M.formI d (M.logI g) = 0 := by
  unfold M.logI M.listI
  rw [M.formI, if_neg (by simp), if_neg (by simp), if_neg (by omega), if_neg (by simp)]
  simp only [M.formIs, M.formI_texts (d + 1) (by omega) g.topics (by omega)]
  simp [M.textI, M.formI]
theorem M.logI_cnt (g : M.Lg) : M.cntIs [M.textI g.addr, M.textsI g.topics, M.textI g.data] = g.topics.length + 3 := by
  have := M.cnt_texts g.topics
  simp only [M.cntIs, M.textI, M.textsI, M.cntI]
  omega
set_option maxRecDepth 100000 in
theorem bytesof_any (l : Bool) (d : List UInt8) (xs : List M.It) (a : Option Addr) (cap : Nat) (w : World) (hL : Lay w w.heap.size xs (.slice a xs.length cap)) (hc : M.cntIs xs ≤ 4000) (hz : (M.bytesI (.mk l d xs)).length ≤ 65536) (hf : M.formI 0 (.mk l d xs) = 0) :
    Calls Tryz.prog 25 #[iv l d (.slice a xs.length cap)] w fun e w' => e = .returned (.string ⟨(M.bytesI (.mk l d xs)).toArray⟩) ∧ Below w.heap.size w w' := by
  have hb0 : Below w.heap.size w (w.alloc (.cells #[.bool l, .string ⟨d.toArray⟩, .slice a xs.length cap] 45)) := by (repeat (first | exact Below.refl _ _ | refine Below.drew ?_ | refine Below.alloc ?_ (by first | omega | (simp; omega) | simp) _ | refine Below.setCell ?_ (by first | omega | (simp; omega) | simp) _))
  have HE := Lib.hid (encode_any l d xs (.slice a xs.length cap) (w.alloc (.cells #[.bool l, .string ⟨d.toArray⟩, .slice a xs.length cap] 45)) ((hL.from_ hb0).mono (by simp)) hc (by omega))
  have e1 : M.encodeI (.mk l d xs) = (M.bytesI (.mk l d xs), 0) := by
    have : M.checkI (.mk l d xs) = 0 := by unfold M.checkI; rw [if_neg (by omega)]; exact hf
    unfold M.encodeI
    rw [if_pos this]
  rw [e1] at HE
  clear hL hc hz hf e1
  generalize M.bytesI (.mk l d xs) = s at *
  go_enter Tryz.func25, Tryz.ntmps25
  go_wp2_with fail
  refine HE.out.mono ?_
  rintro e w1 ⟨rfl, hb1⟩
  go_wp2_with fail
  go_ret
  exact ⟨rfl, hb0.trans (hb1.mono (by simp))⟩

set_option maxRecDepth 100000 in
set_option maxHeartbeats 4000000 in
theorem bytesoflog_any (g : M.Lg) (at_ : Option Addr) (ct : Nat) (w : World) (hT : Ts w w.heap.size g.topics (.slice at_ g.topics.length ct)) (hsh : M.Short g) :
    Calls Tryz.prog 28 #[lgv g (.slice at_ g.topics.length ct)] w fun e w' => e = .returned (.string ⟨(M.bytesI (M.logI g)).toArray⟩) ∧ Below w.heap.size w w' := by
  have mixed : Tryz.prog.follows .mixedOrders = true := by kernel_rfl
  obtain ⟨ha, hd, ht, hts⟩ := hsh
  have HCNT : Hid (M.cntIs [M.textI g.addr, M.textsI g.topics, M.textI g.data] ≤ 4000) := by show _ ≤ _; rw [M.logI_cnt]; omega
  have HSM : Hid (M.smIs [M.textI g.addr, M.textsI g.topics, M.textI g.data]) := ⟨⟨by omega, trivial⟩, ⟨by decide, M.sm_texts _ fun s hs => by have := hts s hs; omega⟩, ⟨by omega, trivial⟩, trivial⟩
  have HLN : Hid ((M.bytesI (.mk true [] [M.textI g.addr, M.textsI g.topics, M.textI g.data])).length ≤ 65536) := Nat.le_trans (M.logI_len ⟨ha, hd, ht, hts⟩) (by decide)
  have HFO := Lib.hid (M.logI_form (g := g) ht 0 (by omega))
  obtain ⟨w0, hw0⟩ : ∃ w0, w.alloc (.cells #[.string ⟨g.addr.toArray⟩, .slice at_ g.topics.length ct, .string ⟨g.data.toArray⟩] 40) = w0 := ⟨_, rfl⟩
  have hb0 : Below w.heap.size w w0 := by rw [← hw0]; exact (Below.refl _ _).alloc (Nat.le_refl _) _
  have hzw : w0.heap.size = w.heap.size + 1 := by rw [← hw0]; simp
  have hr0 : LgBox w0 w.heap.size g (.slice at_ g.topics.length ct) := by rw [← hw0]; exact LgBox.new w g _ _
  have HBX := Lib.hid (fun W (h : Below w0.heap.size w0 W) => hr0.from_ h (by omega))
  have HTA := Lib.hid (fun W (_ : Below w0.heap.size w0 W) => field_text g.addr W (by unfold longS; omega))
  have HTD := Lib.hid (fun W (_ : Below w0.heap.size w0 W) => field_text g.data W (by unfold longS; omega))
  have HTS := Lib.hid (fun W (h : Below w0.heap.size w0 W) => field_texts g.topics at_ ct W (hT.kept_ (hb0.trans (h.mono hb0.size))) (by omega) (fun s hs => by have := hts s hs; unfold longS; omega))
  have HW := Lib.hid hw0
  have HB := Lib.hid hb0
  obtain ⟨i0, hi, hz0, hz1, hz2⟩ := info_parts Tryz.ofItem
  clear hw0 hb0 hr0 hT
  go_enter Tryz.func28, Tryz.ntmps28
  go_wp2_with fail
  rw [HW.out]
  refine wp_region_held (S := fun Y => Below w0.heap.size w0 Y) mixed ?_
  have hS0 : Below w0.heap.size w0 w0.drew := Below.drew (Below.refl _ _)
  rw [show Array.replicate (Array.size _) false = #[false, false, false, false, false, false, false, false, false, false, false, false, false] from rfl, show Array.size (α := Oper) _ = 13 from rfl]
  refine wpAnyH_take (i := 0) (v := .pointer (some ⟨w.heap.size, 0, none⟩)) rfl (by kernel_rfl) (by kernel_rfl) (by kernel_rfl) (fun _ _ _ h => h) (Or.inl ⟨by rfl, ?_⟩) hS0 ?_
  · intro Y hY
    skip
    go_simp
  simp only [Act.put, List.getElem_toArray, List.getElem_cons_zero, List.setIfInBounds_toArray, List.set_cons_zero, List.set_cons_succ]
  refine wpAnyH_take (i := 1) (v := .string ⟨g.addr.toArray⟩) rfl (by kernel_rfl) (by kernel_rfl) (by kernel_rfl) (fun _ _ _ h => h) (Or.inl ⟨by rfl, ?_⟩) hS0 ?_
  · intro Y hY
    obtain ⟨a0, a1, a2⟩ := HBX.out _ hY
    go_simp
  simp only [Act.put, List.getElem_toArray, List.getElem_cons_succ, List.getElem_cons_zero, List.setIfInBounds_toArray, List.set_cons_zero, List.set_cons_succ]
  refine wpAnyH_take (i := 3) (v := .pointer (some ⟨w.heap.size, 1, none⟩)) rfl (by kernel_rfl) (by kernel_rfl) (by kernel_rfl) (fun _ _ _ h => h) (Or.inl ⟨by rfl, ?_⟩) hS0 ?_
  · intro Y hY
    skip
    go_simp
  simp only [Act.put, List.getElem_toArray, List.getElem_cons_succ, List.getElem_cons_zero, List.setIfInBounds_toArray, List.set_cons_zero, List.set_cons_succ]
  refine wpAnyH_take (i := 4) (v := .slice at_ g.topics.length ct) rfl (by kernel_rfl) (by kernel_rfl) (by kernel_rfl) (fun _ _ _ h => h) (Or.inl ⟨by rfl, ?_⟩) hS0 ?_
  · intro Y hY
    obtain ⟨a0, a1, a2⟩ := HBX.out _ hY
    go_simp
  simp only [Act.put, List.getElem_toArray, List.getElem_cons_succ, List.getElem_cons_zero, List.setIfInBounds_toArray, List.set_cons_zero, List.set_cons_succ]
  refine wpAnyH_take (i := 6) (v := .pointer (some ⟨w.heap.size, 2, none⟩)) rfl (by kernel_rfl) (by kernel_rfl) (by kernel_rfl) (fun _ _ _ h => h) (Or.inl ⟨by rfl, ?_⟩) hS0 ?_
  · intro Y hY
    skip
    go_simp
  simp only [Act.put, List.getElem_toArray, List.getElem_cons_succ, List.getElem_cons_zero, List.setIfInBounds_toArray, List.set_cons_zero, List.set_cons_succ]
  refine wpAnyH_take (i := 7) (v := .string ⟨g.data.toArray⟩) rfl (by kernel_rfl) (by kernel_rfl) (by kernel_rfl) (fun _ _ _ h => h) (Or.inl ⟨by rfl, ?_⟩) hS0 ?_
  · intro Y hY
    obtain ⟨a0, a1, a2⟩ := HBX.out _ hY
    go_simp
  simp only [Act.put, List.getElem_toArray, List.getElem_cons_succ, List.getElem_cons_zero, List.setIfInBounds_toArray, List.set_cons_zero, List.set_cons_succ]
  refine wpAnyH_ready (rs := [2]) (by kernel_rfl) (by simp) ?_
  refine AllReadyH.cons rfl (fun K hK => ?_) AllReadyH.nil
  go_simp
  refine (HTA.out _ hS0).mono ?_
  rintro e w1 ⟨rfl, hb1⟩
  have hS1 : Below w0.heap.size w0 w1 := hS0.trans (Below.mono hb1 hS0.size)
  try go_wp2_with fail
  refine hK.out _ _ hS1 (fun _ => ?_)
  clear hK K
  simp only [List.setIfInBounds_toArray, List.set_cons_zero, List.set_cons_succ]
  refine wpAnyH_ready (rs := [5]) (by kernel_rfl) (by simp) ?_
  refine AllReadyH.cons rfl (fun K hK => ?_) AllReadyH.nil
  go_simp
  refine (HTS.out _ hS1).mono ?_
  rintro e w2 ⟨⟨a2, c2, rfl, hLT⟩, hb2⟩
  have hS2 : Below w0.heap.size w0 w2 := hS1.trans (Below.mono hb2 hS1.size)
  try go_wp2_with fail
  refine hK.out _ _ hS2 (fun _ => ?_)
  clear hK K
  simp only [List.setIfInBounds_toArray, List.set_cons_zero, List.set_cons_succ]
  refine wpAnyH_ready (rs := [8]) (by kernel_rfl) (by simp) ?_
  refine AllReadyH.cons rfl (fun K hK => ?_) AllReadyH.nil
  go_simp
  refine (HTD.out _ hS2).mono ?_
  rintro e w3 ⟨rfl, hb3⟩
  have hS3 : Below w0.heap.size w0 w3 := hS2.trans (Below.mono hb3 hS2.size)
  try go_wp2_with fail
  refine hK.out _ _ hS3 (fun _ => ?_)
  clear hK K
  simp only [List.setIfInBounds_toArray, List.set_cons_zero, List.set_cons_succ]
  refine wpAnyH_ready (rs := [9]) (by kernel_rfl) (by simp) ?_
  refine AllReadyH.cons rfl (fun K hK => ?_) AllReadyH.nil
  rw [if_pos (by rfl)]
  refine wp_build_it3 _ _ _ false true false g.addr [] g.data _ _ _ i0 rfl rfl rfl rfl hi hz0 hz1 ?_
  obtain ⟨w4, hw4⟩ : ∃ w4, w3.alloc (.cells #[.bool false, .string ⟨g.addr.toArray⟩, .slice none 0 0, .bool true, .string ⟨#[]⟩, .slice a2 g.topics.length c2, .bool false, .string ⟨g.data.toArray⟩, .slice none 0 0] 45) = w4 := ⟨_, rfl⟩
  have hb34 : Below w3.heap.size w3 w4 := by rw [← hw4]; exact (Below.refl _ _).alloc (Nat.le_refl _) _
  have hS4 : Below w0.heap.size w0 w4 := hS3.trans (hb34.mono hS3.size)
  have hL4 : Lay w4 w4.heap.size [M.textI g.addr, M.textsI g.topics, M.textI g.data] (.slice (some ⟨w3.heap.size, 0, none⟩) 3 3) := by
    have := lay_made w3 [(M.textI g.addr, .slice none 0 0), (M.textsI g.topics, .slice a2 g.topics.length c2), (M.textI g.data, .slice none 0 0)] (by
      intro p hp
      simp only [List.mem_cons, List.not_mem_nil, or_false] at hp
      rcases hp with rfl | rfl | rfl
      · exact .nil_ (by decide)
      · exact (hLT.from_ hb3).mono hb3.size
      · exact .nil_ (by decide)) (by show 3 ≤ maxLen; decide)
    rw [← hw4]
    exact this.mono (by simp)
  have HFL := Lib.hid (flist_it [M.textI g.addr, M.textsI g.topics, M.textI g.data] (some ⟨w3.heap.size, 0, none⟩) 3 w4 HCNT.out HSM.out hL4)
  rw [hw4]
  clear hw4 hL4 hLT
  refine hK.out _ _ hS4 (fun _ => ?_)
  clear hK K
  simp only [List.setIfInBounds_toArray, List.set_cons_zero, List.set_cons_succ]
  refine wpAnyH_ready (rs := [10]) (by kernel_rfl) (by simp) ?_
  refine AllReadyH.cons rfl (fun K hK => ?_) AllReadyH.nil
  go_simp
  refine HFL.out.mono ?_
  rintro e w5 ⟨⟨a5, c5, rfl, hL5⟩, hb5⟩
  have hS5 : Below w0.heap.size w0 w5 := hS4.trans (Below.mono hb5 hS4.size)
  have HBO := Lib.hid (bytesof_any true [] [M.textI g.addr, M.textsI g.topics, M.textI g.data] a5 c5 w5 hL5 HCNT.out HLN.out HFO.out)
  clear hL5
  try go_wp2_with fail
  refine hK.out _ _ hS5 (fun _ => ?_)
  clear hK K
  simp only [List.setIfInBounds_toArray, List.set_cons_zero, List.set_cons_succ]
  refine wpAnyH_ready (rs := [11]) (by kernel_rfl) (by simp) ?_
  refine AllReadyH.cons rfl (fun K hK => ?_) AllReadyH.nil
  go_simp
  refine HBO.out.mono ?_
  rintro e w6 ⟨rfl, hb6⟩
  have hS6 : Below w0.heap.size w0 w6 := hS5.trans (Below.mono hb6 hS5.size)
  try go_wp2_with fail
  refine hK.out _ _ hS6 (fun _ => ?_)
  clear hK K
  simp only [List.setIfInBounds_toArray, List.set_cons_zero, List.set_cons_succ]
  refine wpAnyH_take (i := 12) (v := .string ⟨(M.bytesI (.mk true [] [M.textI g.addr, M.textsI g.topics, M.textI g.data])).toArray⟩) rfl (by kernel_rfl) (by kernel_rfl) (by kernel_rfl) (fun _ _ _ h => h) (Or.inl ⟨by rfl, ?_⟩) hS6 ?_
  · intro Y hY
    skip
    go_simp
  simp only [Act.put, List.getElem_toArray, List.getElem_cons_succ, List.getElem_cons_zero, List.setIfInBounds_toArray, List.set_cons_zero, List.set_cons_succ]
  refine wpAnyH_done (by kernel_rfl) ?_ _
  clear hb1 hb2 hb3 hb34 hb5 hb6
  go_wp2_with fail
  go_ret
  exact ⟨rfl, HB.out.trans (hS6.mono HB.out.size)⟩
end Go.Proofs.YtihiacbhdcahkaaGreatDoor
namespace Go.Proofs.YtihiacbhdcahkaaGreatDoor
open Go Go.RowKit Go.Lib Go.Shelf
attribute [local go_sem] Oper.semAt_some

/-- A builder of a call's own. -/
abbrev IsB (B b : Nat) (l : List UInt8) (w : World) : Prop := Lib.IsBuilder 78 5 B b (Lib.byteCells l) w
theorem IsB.from_ {B b : Nat} {l : List UInt8} {w W : World} (h : IsB B b l w) (hb : Below w.heap.size w W) : IsB B b l W := by
  have key : ∀ p, Lib.BuilderAt 78 5 B b p (Lib.byteCells l) w → Lib.BuilderAt 78 5 B b p (Lib.byteCells l) W := fun p ⟨h1, v, h2, h3, h4⟩ => by
    refine ⟨h1, v, (hb.block b (Array.getElem?_eq_some_iff.1 h2).1).trans h2, ?_, h4⟩
    refine World.ownsRow.kept h3 (row := none) ⟨hb.os, hb.tape, hb.output, hb.size, fun i hi _ => hb.block i hi⟩ ?_
    cases v.ownBlock <;> simp
  exact h.imp (key _) (key _)
theorem wstring_any (B b : Nat) (l : List UInt8) (s : List UInt8) (w : World) (h : IsB B b l w) (hlen : l.length + s.length ≤ 140737488355328) (hBw : B ≤ w.heap.size) :
    Calls Tryz.prog 44 #[.pointer (some ⟨b, 0, none⟩), .string ⟨s.toArray⟩] w fun e w' => e = .returned (.tuple #[.int .i64 (s.length : Nat), .nilIface]) ∧ IsB B b (l ++ s) w' ∧ Below B w w' := by
  have hl : (Lib.byteCells l).length = l.length := by simp [Lib.byteCells]
  have := Any.Builder_WriteString (P := Tryz.prog) (ρ := lays105_ren) { lays105 with } Builder_Extra_105 B b (Lib.byteCells l) ⟨s.toArray⟩ w h (by rw [hl]; exact hlen) hBw
  refine Calls.mono this ?_
  rintro e w' ⟨rfl, h1, h2⟩
  refine ⟨rfl, .inr ?_, h2⟩
  have e1 : Lib.byteCells (l ++ s) = Lib.byteCells l ++ Lib.strCells ⟨s.toArray⟩ := by simp [Lib.byteCells, Lib.strCells]
  rw [e1]
  exact h1
theorem bstring_any (B b : Nat) (l : List UInt8) (w : World) (h : IsB B b l w) (hBw : B ≤ w.heap.size) :
    Calls Tryz.prog 45 #[.pointer (some ⟨b, 0, none⟩)] w fun e w' => e = .returned (.string ⟨l.toArray⟩) ∧ Below B w w' :=
  Any.Builder_String_any (P := Tryz.prog) (ρ := lays105_ren) { lays105 with } Builder_Extra_105 B b l w h hBw
theorem IsB.new (w : World) : IsB w.heap.size w.heap.size [] (w.alloc (.cells #[.pointer none, .slice none 0 0] 78)) :=
  .inl ⟨Nat.le_refl _, .slice none 0 0, heap_alloc_new w _, World.ownsRow_nil _ _ _ _, by simp [Value.ownBlock]⟩
end Go.Proofs.YtihiacbhdcahkaaGreatDoor
namespace Go.Proofs.YtihiacbhdcahkaaGreatDoor
open Go Go.RowKit Go.Lib Go.Shelf
attribute [local go_sem] Oper.semAt_some

theorem M.bytesIs_nx {xs : List M.It} {j : Nat} {x : M.It} (h : xs[j]? = some x) : M.bytesIs (xs.take (j + 1)) = M.bytesIs (xs.take j) ++ M.bytesI x := by
  rw [List.take_add_one, h]
  have : ∀ (l : List M.It) (y : M.It), M.bytesIs (l ++ [y]) = M.bytesIs l ++ M.bytesI y := fun l y => by
    induction l with
    | nil => simp [M.bytesIs]
    | cons z l ih => rw [List.cons_append, M.bytesIs, M.bytesIs, ih, List.append_assoc]
  exact this _ x
theorem M.bytesIs_take : ∀ (xs : List M.It) (j : Nat), (M.bytesIs (xs.take j)).length ≤ (M.bytesIs xs).length
  | [], j => by simp [M.bytesIs]
  | x :: xs, 0 => by simp [M.bytesIs]
  | x :: xs, j + 1 => by
    rw [List.take_succ_cons, M.bytesIs, M.bytesIs, List.length_append, List.length_append]
    have := M.bytesIs_take xs j
    omega

set_option maxRecDepth 100000 in
set_option maxHeartbeats 4000000 in
theorem joinedI_any (xs : List M.It) (a : Option Addr) (cap : Nat) (w : World) (hL : Lay w w.heap.size xs (.slice a xs.length cap)) (hl : xs.length ≤ 4000) (hz : (M.bytesIs xs).length ≤ 1000000)
    (hx : ∀ l d ys, M.It.mk l d ys ∈ xs → M.cntIs ys ≤ 4000 ∧ (M.bytesI (.mk l d ys)).length ≤ 65536 ∧ M.formI 0 (.mk l d ys) = 0) :
    Calls Tryz.prog 24 #[.slice a xs.length cap, .func (.func 25) #[] #[]] w fun e w' => e = .returned (.string ⟨(M.bytesIs xs).toArray⟩) ∧ Below w.heap.size w w' := by
  have E1 : ∀ args w, (callFunc 25 args).run Tryz.prog w = .ok (.enter 25 args) w := enters_of Tryz.func25 (by kernel_rfl) rfl
  obtain ⟨h, hh⟩ : ∃ h, w.heap.size = h := ⟨_, rfl⟩
  obtain ⟨w0, hw0⟩ : ∃ w0, w.alloc (.cells #[.pointer none, .slice none 0 0] 78) = w0 := ⟨_, rfl⟩
  have hb0 : Below h w w0 := by rw [← hw0, ← hh]; exact (Below.refl _ _).alloc (Nat.le_refl _) _
  have hI0 : IsB h h [] w0 := by rw [← hw0, ← hh]; exact IsB.new w
  have HL := Lib.hid hL
  have HX := Lib.hid hx
  have HZ := Lib.hid hz
  have HW := Lib.hid hw0
  clear hL hx hz hw0
  go_enter Tryz.func24, Tryz.ntmps24
  go_wp2_with fail
  try rw [HW.out]
  try rw [hh]
  have HH := Lib.hid hh
  clear hh HW
  go_loopw [10] (fun i wr => ∃ j : Nat, j ≤ xs.length ∧ i = .int .i64 (j : Nat) ∧ IsB h h (M.bytesIs (xs.take j)) wr ∧ Below h w wr) (fun i _ => xs.length - (RowKit.intOf i).toNat)
  case atStart => exact ⟨0, Nat.zero_le _, rfl, by simpa [M.bytesIs] using hI0, hb0⟩
  case round =>
    clear hI0 hb0
    obtain ⟨j, hj, rfl, hI, hW⟩ := hrel
    have hWz : h ≤ wr.heap.size := by have := hW.size; rw [HH.out] at this; exact this
    by_cases hlt : j < xs.length
    · obtain ⟨b, o, cap', l, d, ys, u, hv, hbn, hs, h0, h1, h2, hu⟩ := HL.out.at_ hlt
      cases hv
      rw [HH.out] at hbn
      have c0 := (hW.cell (p := ⟨b, o + j * 3, none⟩) hbn).trans h0
      have c1 := (hW.cell (p := ⟨b, o + j * 3 + 1, none⟩) hbn).trans h1
      have c2 := (hW.cell (p := ⟨b, o + j * 3 + 2, none⟩) hbn).trans h2
      obtain ⟨q1, q2, q3⟩ := HX.out l d ys (List.mem_of_getElem? hs)
      obtain ⟨au, cu, rfl, _, _⟩ := hu.slice
      have hb1 : Below wr.heap.size wr (wr.alloc (.cells #[.bool l, .string ⟨d.toArray⟩, .slice au ys.length cu] 45)) := (Below.refl _ _).alloc (Nat.le_refl _) _
      have hWu : Below w.heap.size w (wr.alloc (.cells #[.bool l, .string ⟨d.toArray⟩, .slice au ys.length cu] 45)) := by rw [HH.out]; exact hW.trans (hb1.mono hWz)
      have HP := Lib.hid (bytesof_any l d ys au cu (wr.alloc (.cells #[.bool l, .string ⟨d.toArray⟩, .slice au ys.length cu] 45)) ((hu.from_ hWu).mono hWu.size) q1 q2 q3)
      have HN := Lib.hid (M.bytesIs_nx hs)
      have HTL := Lib.hid (M.bytesIs_take xs (j + 1))
      have hj9 : j < 4000 := by omega
      have hlti : (j : Int) < xs.length := by omega
      have HB1 := Lib.hid hb1
      have HI := Lib.hid hI
      clear hs h0 h1 h2 hu q1 q2 q3 hI hWu hb1
      go_wp2_with fail
      refine HP.out.mono ?_
      rintro e w1 ⟨rfl, hb2⟩
      have hb12 := HB1.out.trans (hb2.mono HB1.out.size)
      have HI2 := HI.out.from_ hb12
      have HWS := Lib.hid (wstring_any h h _ (M.bytesI (.mk l d ys)) w1 HI2 (by rw [← List.length_append, ← HN.out]; have := HTL.out; have := HZ.out; omega) (by have := hb12.size; omega))
      clear c0 c1 c2 HI2
      go_wp2_with fail
      refine HWS.out.mono ?_
      rintro e w2 ⟨rfl, hI3, hb3⟩
      have hW2 : Below h w w2 := (hW.trans (hb12.mono hWz)).trans hb3
      have HI3 := Lib.hid hI3
      clear hb2 hb12 hb3 hI3
      go_wp2_with fail
      exact ⟨⟨j + 1, by omega, by simp, by rw [HN.out]; exact HI3.out, hW2⟩, by simp [RowKit.intOf]; omega⟩
    · obtain rfl : j = xs.length := by omega
      rw [List.take_length] at hI
      have HS := Lib.hid (bstring_any h h (M.bytesIs xs) wr hI hWz)
      clear hI
      go_wp2_with fail
      refine HS.out.mono ?_
      rintro e w1 ⟨rfl, hb1⟩
      go_wp2_with fail
      go_ret
      exact ⟨rfl, by rw [HH.out]; exact hW.trans hb1⟩

set_option maxRecDepth 100000 in
set_option maxHeartbeats 4000000 in
theorem joinedL_any (ls : List M.Lg) (a : Option Addr) (cap : Nat) (w : World) (hL : Ls w w.heap.size ls (.slice a ls.length cap)) (hl : ls.length ≤ 20) (hx : ∀ g ∈ ls, M.Short g) :
    Calls Tryz.prog 27 #[.slice a ls.length cap, .func (.func 28) #[] #[]] w fun e w' => e = .returned (.string ⟨(M.bytesIs (ls.map M.logI)).toArray⟩) ∧ Below w.heap.size w w' := by
  have E1 : ∀ args w, (callFunc 28 args).run Tryz.prog w = .ok (.enter 28 args) w := enters_of Tryz.func28 (by kernel_rfl) rfl
  obtain ⟨h, hh⟩ : ∃ h, w.heap.size = h := ⟨_, rfl⟩
  obtain ⟨w0, hw0⟩ : ∃ w0, w.alloc (.cells #[.pointer none, .slice none 0 0] 78) = w0 := ⟨_, rfl⟩
  have hb0 : Below h w w0 := by rw [← hw0, ← hh]; exact (Below.refl _ _).alloc (Nat.le_refl _) _
  have hI0 : IsB h h [] w0 := by rw [← hw0, ← hh]; exact IsB.new w
  have HL := Lib.hid hL
  have HX := Lib.hid hx
  have hlen : ∀ ls : List M.Lg, (∀ g ∈ ls, M.Short g) → (M.bytesIs (ls.map M.logI)).length ≤ ls.length * 6000 := fun ls => by
    induction ls with
    | nil => intro _; simp [M.bytesIs]
    | cons g ls ih =>
      intro hg
      have h1 := ih fun x hx => hg x (List.mem_cons_of_mem _ hx)
      have h2 := M.logI_len (hg g (by simp))
      rw [List.map_cons, M.bytesIs, List.length_append, List.length_cons, Nat.add_mul]
      omega
  have hz : (M.bytesIs (ls.map M.logI)).length ≤ 1000000 := by have := hlen ls hx; have : ls.length * 6000 ≤ 20 * 6000 := Nat.mul_le_mul_right _ hl; omega
  have HZ := Lib.hid hz
  have HW := Lib.hid hw0
  clear hL hx hz hw0 hlen
  go_enter Tryz.func27, Tryz.ntmps27
  go_wp2_with fail
  try rw [HW.out]
  try rw [hh]
  have HH := Lib.hid hh
  clear hh HW
  go_loopw [10] (fun i wr => ∃ j : Nat, j ≤ ls.length ∧ i = .int .i64 (j : Nat) ∧ IsB h h (M.bytesIs ((ls.map M.logI).take j)) wr ∧ Below h w wr) (fun i _ => ls.length - (RowKit.intOf i).toNat)
  case atStart => exact ⟨0, Nat.zero_le _, rfl, by simpa [M.bytesIs] using hI0, hb0⟩
  case round =>
    clear hI0 hb0
    obtain ⟨j, hj, rfl, hI, hW⟩ := hrel
    have hWz : h ≤ wr.heap.size := by have := hW.size; rw [HH.out] at this; exact this
    by_cases hlt : j < ls.length
    · obtain ⟨b, o, g, at_, ct, hv, hbn, hs, h0, h1, h2, hu⟩ := HL.out.at_ hlt
      subst hv
      rw [HH.out] at hbn
      have c0 := (hW.cell (p := ⟨b, o + j * 3, none⟩) hbn).trans h0
      have c1 := (hW.cell (p := ⟨b, o + j * 3 + 1, none⟩) hbn).trans h1
      have c2 := (hW.cell (p := ⟨b, o + j * 3 + 2, none⟩) hbn).trans h2
      have hb1 : Below wr.heap.size wr (wr.alloc (.cells #[.string ⟨g.addr.toArray⟩, .slice at_ g.topics.length ct, .string ⟨g.data.toArray⟩] 40)) := (Below.refl _ _).alloc (Nat.le_refl _) _
      have hWu : Below w.heap.size w (wr.alloc (.cells #[.string ⟨g.addr.toArray⟩, .slice at_ g.topics.length ct, .string ⟨g.data.toArray⟩] 40)) := by rw [HH.out]; exact hW.trans (hb1.mono hWz)
      have HP := Lib.hid (bytesoflog_any g at_ ct (wr.alloc (.cells #[.string ⟨g.addr.toArray⟩, .slice at_ g.topics.length ct, .string ⟨g.data.toArray⟩] 40)) (hu.kept_ hWu) (HX.out g (List.mem_of_getElem? hs)))
      have hms : (ls.map M.logI)[j]? = some (M.logI g) := by rw [List.getElem?_map, hs]; rfl
      have HN := Lib.hid (M.bytesIs_nx hms)
      have HTL := Lib.hid (M.bytesIs_take (ls.map M.logI) (j + 1))
      have hj9 : j < 4000 := by omega
      have hlti : (j : Int) < ls.length := by omega
      have HB1 := Lib.hid hb1
      have HI := Lib.hid hI
      clear hs h0 h1 h2 hu hI hWu hb1 hms
      go_wp2_with fail
      refine HP.out.mono ?_
      rintro e w1 ⟨rfl, hb2⟩
      have hb12 := HB1.out.trans (hb2.mono HB1.out.size)
      have HI2 := HI.out.from_ hb12
      have HWS := Lib.hid (wstring_any h h _ (M.bytesI (M.logI g)) w1 HI2 (by rw [← List.length_append, ← HN.out]; have := HTL.out; have := HZ.out; omega) (by have := hb12.size; omega))
      clear c0 c1 c2 HI2
      go_wp2_with fail
      refine HWS.out.mono ?_
      rintro e w2 ⟨rfl, hI3, hb3⟩
      have hW2 : Below h w w2 := (hW.trans (hb12.mono hWz)).trans hb3
      have HI3 := Lib.hid hI3
      clear hb2 hb12 hb3 hI3
      go_wp2_with fail
      exact ⟨⟨j + 1, by omega, by simp, by rw [HN.out]; exact HI3.out, hW2⟩, by simp [RowKit.intOf]; omega⟩
    · obtain rfl : j = ls.length := by omega
      have et : (ls.map M.logI).take ls.length = ls.map M.logI := by rw [List.take_of_length_le (by simp)]
      rw [et] at hI
      have HS := Lib.hid (bstring_any h h (M.bytesIs (ls.map M.logI)) wr hI hWz)
      clear hI et
      go_wp2_with fail
      refine HS.out.mono ?_
      rintro e w1 ⟨rfl, hb1⟩
      go_wp2_with fail
      go_ret
      exact ⟨rfl, by rw [HH.out]; exact hW.trans hb1⟩
end Go.Proofs.YtihiacbhdcahkaaGreatDoor
namespace Go.Proofs.YtihiacbhdcahkaaGreatDoor
open Go Go.RowKit Go.Lib Go.Shelf
attribute [local go_sem] Oper.semAt_some

theorem field_bytes (a b c : Value) (W : World) : (Instr.field 45 (.agg #[a, b, c]) 1).run Tryz.prog W = .ok b W := by
  simp [Instr.field, run_underlying Tryz.underlying45, part, isAgg, run_underlying Tryz.underlying9, asAgg, Result.andThen]
set_option maxRecDepth 100000 in
set_option maxHeartbeats 2000000 in
theorem listed_any (own : List UInt8) (w : World) (hl : own.length ≤ 1000000) : Calls Tryz.prog 26 #[.string ⟨own.toArray⟩] w fun e w' => e = .returned (.string ⟨(M.hdL own.length 192 ++ own).toArray⟩) ∧ Below w.heap.size w w' := by
  by_cases h : own.length < 56
  · have hi : (own.length : Int) < 56 := by omega
    obtain ⟨k, hk⟩ : ∃ k, 192 + own.length = k := ⟨_, rfl⟩
    have hk' : k < 256 := by omega
    have hki : (192 : Int) + (own.length : Int) = (k : Int) := by omega
    have e1 : M.hdL own.length 192 = [UInt8.ofNat k] := by unfold M.hdL; rw [if_pos h, hk]
    have hw8 : IntKind.u8.wrap (k : Int) = (k : Int) := by
      show (k : Int) % (2 ^ 8 : Int) = _
      omega
    rw [e1]
    clear e1 h
    go_enter Tryz.func26, Tryz.ntmps26
    go_wp2_with fail
    obtain ⟨W, hW⟩ : ∃ W, w.alloc (.cells #[.int .u8 k] 5) = W := ⟨_, rfl⟩
    have r1 : W.heap[w.heap.size]? = some (.cells #[.int .u8 k] 5 (0, 0)) := by rw [← hW]; exact heap_alloc_new _ _
    have hb : Below w.heap.size w W := by rw [← hW]; exact (Below.refl _ _).alloc (Nat.le_refl _) _
    have hcv := conv_at [UInt8.ofNat k] W w.heap.size (fun j hj => by
      have : j = 0 := by simpa using hj
      subst this
      simp only [World.cell?, r1]
      simp [Nat.mod_eq_of_lt hk'])
    rw [List.length_singleton] at hcv
    rw [hW, hcv]
    clear hW
    go_wp2_with fail
    go_ret
    exact ⟨by simp; apply ByteArray.ext; simp, hb⟩
  · have hi : ¬ (own.length : Int) < 56 := by omega
    have HN := Lib.hid (fun W => field_number own.length W (by omega))
    have hb8 : (M.ben own.length).length ≤ 8 := M.ben_le (by omega)
    have e1 : M.hdL own.length 192 = UInt8.ofNat (247 + (M.ben own.length).length) :: M.ben own.length := by unfold M.hdL; rw [if_neg h]
    have hu : (own.length : Int) % 18446744073709551616 = (own.length : Int) := by omega
    rw [e1]
    clear e1 h
    generalize M.ben own.length = r at *
    obtain ⟨k, hk⟩ : ∃ k, 247 + r.length = k := ⟨_, rfl⟩
    have hk' : k < 256 := by omega
    have hki : (247 : Int) + (r.length : Int) = (k : Int) := by omega
    rw [hk]
    have hw8 : IntKind.u8.wrap (k : Int) = (k : Int) := by
      show (k : Int) % (2 ^ 8 : Int) = _
      omega
    go_enter Tryz.func26, Tryz.ntmps26
    go_wp2_with fail
    refine (HN.out _).mono ?_
    rintro e w1 ⟨rfl, hb1⟩
    go_wp2_with fail
    rw [field_bytes]
    go_wp2_with fail
    obtain ⟨W, hW⟩ : ∃ W, w1.alloc (.cells #[.int .u8 k] 5) = W := ⟨_, rfl⟩
    have r1 : W.heap[w1.heap.size]? = some (.cells #[.int .u8 k] 5 (0, 0)) := by rw [← hW]; exact heap_alloc_new _ _
    have hb : Below w1.heap.size w1 W := by rw [← hW]; exact (Below.refl _ _).alloc (Nat.le_refl _) _
    have hcv := conv_at [UInt8.ofNat k] W w1.heap.size (fun j hj => by
      have : j = 0 := by simpa using hj
      subst this
      simp only [World.cell?, r1]
      simp [Nat.mod_eq_of_lt hk'])
    rw [List.length_singleton] at hcv
    rw [hW, hcv]
    clear hW
    go_wp2_with fail
    go_ret
    exact ⟨by simp; apply ByteArray.ext; simp, hb1.trans (hb.mono hb1.size)⟩
end Go.Proofs.YtihiacbhdcahkaaGreatDoor
