/- The landed package merkle: chunks; bytes in chunks, summed up. The landed package merkle: the table of roots: a map of functions. The landed package ssz: put, Put. The landed package merkle: bytes in chunks, summed up; the bytes of a value; bits. The landed package merkle: roots, kind by kind. The landed package merkle: the roots of a row's items. The landed package merkle: the root of a row. The landed package merkle: roots of lists, of containers. The landed package merkle: roots of lists, of containers. -/
import Derived.Test.YtaajkbclojmbeaaGreatDoorH17
import Derived.Test.YtaajkbclojmbeaaGreatDoorH08
import Derived.Test.YtaajkbclojmbeaaGreatDoorH15
import Derived.Test.YtaajkbclojmbeaaGreatDoorH11
import Derived.Test.YtaajkbclojmbeaaGreatDoorH14
import Derived.Laws.BytesArg
namespace Go.Proofs.YtaajkbclojmbeaaGreatDoor
open Go Go.RowKit Go.Shelf Go.Lib
attribute [local go_sem] Oper.semAt_some

/-- The part of bytes at a place. -/
def partT (s : List UInt8) (x : Nat) : List UInt8 := (s.drop (32 * x)).take 32
theorem part_len (s : List UInt8) (x : Nat) : (partT s x).length = cwT s.length x := by
  unfold partT cwT
  rw [List.length_take, List.length_drop]
  split <;> omega
theorem Bs.convAt {W : World} {g off : Nat} {l : List UInt8} (h : Bs W g off l) {n : Nat} (hn : n = l.length) (cap : Nat) : (convert 41 9 (.slice (some ⟨g, off, none⟩) n cap)).run Tryz.prog W = .ok (.string ⟨l.toArray⟩) W := by
  subst hn
  refine run_convert_bytes_back W 41 9 5 ⟨g, off, none⟩ cap l Tryz.underlying41 Tryz.underlying5 Tryz.underlying9 ?_
  intro j hj
  have := h j hj
  rw [List.getD_eq_getElem?_getD, List.getElem?_eq_getElem hj, Option.getD_some] at this
  by_cases h0 : j = 0
  · subst h0
    simpa [Addr.add] using this
  · simpa [Addr.add, h0] using this
theorem Sealq.bs {w w' : World} {l : List UInt8} {cap : Nat} {cur : Array Value} (h : Sealq w w' 5 ⟨l.toArray⟩ cap cur) : Bs w' w.heap.size 0 l := by
  intro j hj
  have hc := cell_of_row w' w.heap.size (0 + j) cur 5 _ h.row
  rw [hc, Nat.zero_add]
  have ht := h.take
  have hj2 : (cur.toList.take (⟨l.toArray⟩ : ByteArray).size)[j]? = some (.int .u8 (((l.getD j 0).toNat : Nat) : Int)) := by
    rw [ht, cells_bytes]
    simp [List.getD_eq_getElem?_getD, List.getElem?_eq_getElem hj]
  rw [List.getElem?_take] at hj2
  split at hj2
  · simpa using hj2
  · cases hj2

set_option maxRecDepth 100000 in
set_option maxHeartbeats 8000000 in
theorem cut32_any (s : List UInt8) (w : World) (hl : s.length ≤ 100000) :
    Calls Tryz.prog 110 #[.string ⟨s.toArray⟩] w fun e w' => (∃ v, e = .returned v ∧ OwS w.heap.size (M.chunksT s) v w') ∧ Below w.heap.size w w' := by
  have mixed : Tryz.prog.follows .mixedOrders = true := by kernel_rfl
  have hbz : (⟨s.toArray⟩ : ByteArray).size = s.length := rfl
  refine calls_of_wpE (n := 6) Tryz.func110 rfl ?_
  simp only [Tryz.ntmps110, List.size_toArray, List.length_cons, List.length_nil, Nat.reduceAdd, Nat.reduceSub, Array.replicate_succ, Array.replicate_zero, List.push_toArray, List.append_toArray, List.nil_append, List.cons_append]
  refine wpE_then (n := 6) ?_
  gi_wp2_with fail
  refine wpE_then (n := 6) ?_
  gi_wp2_with fail
  refine wpE_seq ?_
  refine wpE_then (n := 6) ?_
  gi_wp2_with (refine wpListIn_seal _ rfl _ _ 5 _ rfl ⟨s.toArray⟩ rfl Tryz.underlying9 Tryz.underlying41 Tryz.underlying5 (by rw [hbz]; unfold maxLen; omega) ?_; intro cap cur w2 hSeal; have HSeal := Lib.hid hSeal; clear hSeal)
  refine ⟨trivial, (callsIn_wide.2 (chunk32_any s.length cap (some ⟨w.heap.size + 1, 0, none⟩) _)).mono ?_⟩
  rintro e w' ⟨rfl, rfl⟩
  gi_wp2_with fail
  obtain ⟨A, hA⟩ : ∃ A, (w2.alloc (.cells #[.slice (some ⟨w.heap.size + 1, 0, none⟩) s.length cap] 41)).alloc (.cells #[.int .i64 32] 3) = A := ⟨_, rfl⟩
  rw [hA]
  have hnew := HSeal.out.new
  rw [World.size_alloc] at hnew
  have hzA : A.heap.size = w.heap.size + 4 := by rw [← hA]; simp; omega
  have hlow := HSeal.out.low
  rw [World.size_alloc] at hlow
  have hb1 : Below w.heap.size w (w.alloc (.cells #[.slice none 0 0] 22)) := (Below.refl _ _).alloc (Nat.le_refl _) _
  have hb2 : Below w.heap.size w w2 := hb1.trans (hlow.mono (by omega))
  have hb2A : Below w2.heap.size w2 A := by rw [← hA]; exact ((Below.refl _ _).alloc (Nat.le_refl _) _).alloc (by simp) _
  have hbA : Below w.heap.size w A := hb2.trans (hb2A.mono hb2.size)
  have hA1 : Boxed A w.heap.size 22 (.slice none 0 0) := (hb2A.block _ (by omega)).trans ((hlow.block _ (by omega)).trans (Boxed.new w 22 (.slice none 0 0)))
  have hA2 : A.cell? ⟨w2.heap.size, 0, none⟩ = some (.slice (some ⟨w.heap.size + 1, 0, none⟩) s.length cap) := by rw [← hA]; simp [go_sem]
  have hA3 : A.cell? ⟨w2.heap.size + 1, 0, none⟩ = some (.int .i64 32) := by rw [← hA]; simp [go_sem]
  have hBs := HSeal.out.bs
  rw [World.size_alloc] at hBs
  have hBA : Bs A (w.heap.size + 1) 0 s := hBs.below hb2A (by omega)
  have hcl := HSeal.out.len
  have hcm := HSeal.out.max
  rw [hbz] at hcl
  obtain ⟨bx, hbx⟩ : ∃ bx, w2.heap.size = bx := ⟨_, rfl⟩
  rw [hbx] at hA2 hA3 hnew ⊢
  have hx1 : w.heap.size + 2 ≤ bx := by omega
  have hx2 : bx ≤ w.heap.size + 2 := by omega
  have HZA := Lib.hid hzA
  have hz1 : w.heap.size + 4 ≤ A.heap.size := by omega
  clear hA hlow hb1 hb2 hb2A hBs hnew hbx hzA
  obtain ⟨f, hf⟩ : ∃ f : List Nat → List (List UInt8), f = fun pre => pre.map fun x => M.fill32 (partT s x) := ⟨_, rfl⟩
  have hfs : ∀ pre x, f (pre ++ [x]) = f pre ++ [M.fill32 (partT s x)] := fun pre x => by rw [hf]; simp
  have hfl : ∀ pre, (f pre).length = pre.length := fun pre => by rw [hf]; simp
  have hf0 : f [] = [] := by rw [hf]; rfl
  have HHF : Hid (M.chunksT s = f (List.range ((s.length + 31) / 32))) := by show _ = _; rw [hf]; rfl
  clear hf
  refine wpE_block ?_
  obtain ⟨A1, hA1'⟩ : ∃ A1 : Nat → Act, A1 = fun x => { tmps := #[.string ⟨s.toArray⟩, undef, .slice none 0 0, .pointer (some ⟨w.heap.size, 0, none⟩), .slice (some ⟨w.heap.size + 1, 32 * x, none⟩) (cwT s.length x) (cwT s.length x), .string ⟨s.toArray⟩, .slice (some ⟨w.heap.size + 1, 0, none⟩) s.length cap, .func (.func 63) #[] #[.pointer (some ⟨bx, 0, none⟩), .pointer (some ⟨bx + 1, 0, none⟩)], .slice (some ⟨w.heap.size + 1, 32 * x, none⟩) (cwT s.length x) (cwT s.length x), undef, undef, undef, undef, undef, undef, undef], defers := [] } := ⟨_, rfl⟩
  refine range_lx (n := 6) (gf := 63) (lb := #[.pointer (some ⟨bx, 0, none⟩), .pointer (some ⟨bx + 1, 0, none⟩)]) (by omega) rfl (enters_of Tryz.func63 (by kernel_rfl) rfl)
    (encs := encK (w.heap.size + 1) s.length) (fun x => rfl) (fun pre W => RT A w.heap.size (f pre) W) (fun _ _ _ _ h hg hr => h.grow hg (by omega) fun j e => ⟨(hr j e).1, .inr (hr j e).2⟩) (fun pre X Y h hg => h.grow hg (by omega) fun j e => by cases e; exact ⟨by omega, .inl (by omega)⟩) (fun _ _ => False)
    (fun _ => False) (fun c h => h.elim) (fun xs => xs = List.range ((s.length + 31) / 32)) (fun pre x => GoodK ((s.length + 31) / 32) pre x) ?seq ⟨Gr.refl _ _, _, hA1, by rw [hf0]; exact OwS.nil _ _⟩ (fun pre x a' W => GoodK ((s.length + 31) / 32) pre x ∧ a' = A1 x ∧ A.heap.size + 2 ≤ W.heap.size ∧ RT A w.heap.size (f pre) W) (fun pre x a' => fun _ _ _ _ h hg hr => ⟨h.1, h.2.1, Nat.le_trans h.2.2.1 hg.size, h.2.2.2.grow hg (by omega) fun j e => ⟨(hr j e).1, .inr (hr j e).2⟩⟩) ?assign ?body ?done ?pan
  case seq =>
    intro l J Jp W hzW hJI hJ hY h0
    refine chunk_seq _ s.length cap (w.heap.size + 1) hcl hcm (by omega) l bx (bx + 1) J Jp (Lib.hid fun pre X h => ((hJI pre X h).gr.cell (p := ⟨bx, 0, none⟩) (by show bx < _; omega) (by show bx ≠ _; omega)).trans hA2) (Lib.hid fun pre X h => ((hJI pre X h).gr.cell (p := ⟨bx + 1, 0, none⟩) (by show bx + 1 < _; omega) (by show bx + 1 ≠ _; omega)).trans hA3) (Lib.hid fun pre X h => hJ pre X _ h ⟨rfl, rfl, rfl, Nat.le_refl _, fun _ _ _ => rfl⟩) (Lib.hid fun m pre x X h hg => hY m pre x X h hg) _ W h0
  case assign =>
    rintro l pre x X K hI hz hG hK'
    have hAX : GoodK ((s.length + 31) / 32) pre x ∧ A1 x = A1 x ∧ A.heap.size + 2 ≤ X.heap.size ∧ RT A w.heap.size (f pre) X := ⟨hG, rfl, hz, hI⟩
    have hkk := hK' _ X (KeepsFrom.refl _ _) (fun _ _ _ => rfl) hAX
    rw [hA1'] at hkk
    dsimp only [encK]
    gi_wp2
    exact hkk
  case body =>
    rintro l pre x a' B ⟨hG, rfl, hz2, hI⟩
    obtain ⟨v, hB, hO⟩ := hI.v
    have hgr := hI.gr
    have hpl : pre.length ≤ 4000 := by have := hG.2.1; have := hG.2.2; omega
    have hfp := hfl pre
    have hfx := hfs pre x
    have hzB := hgr.size
    obtain ⟨i1, hi1, hiz, his, hib⟩ := info_parts Tryz.ofTxt
    have hpt : (partT s x).length ≤ 32 := by unfold partT; rw [List.length_take]; omega
    have HF := Lib.hid (fun X => filled_any (partT s x) X hpt)
    have hpe := part_len s x
    have y1 := hB.cell
    have hBB : Bs B (w.heap.size + 1) 0 s := fun j hj => (hgr.cell (p := ⟨w.heap.size + 1, 0 + j, none⟩) (by show w.heap.size + 1 < _; omega) (by show w.heap.size + 1 ≠ _; omega)).trans (hBA j hj)
    have hd0 : Below B.heap.size B B.drew := Below.drew (Below.refl _ _)
    obtain ⟨u, hu⟩ : ∃ u, M.fill32 (partT s x) = u := ⟨_, rfl⟩
    rw [hu] at HF hfx
    have HFX := Lib.hid hfx
    have HB := Lib.hid hB
    have HO := Lib.hid hO
    have HPE := Lib.hid hpe
    rw [hA1']
    clear hfx hu hI hpe hpt
    gi_wp2_with fail
    refine region_roundH (S := fun Y => Bs Y (w.heap.size + 1) 0 s) (by rintro ⟨_, _, h⟩; exact h) mixed (by kernel_rfl) ?_
    have hS0 : Bs B.drew (w.heap.size + 1) 0 s := hBB
    rw [show Array.replicate (Array.size _) false = #[false, false, false, false, false, false, false] from rfl, show Array.size (α := Oper) _ = 7 from rfl]
    refine wpAnyH_take (i := 1) (v := .slice (some ⟨w.heap.size + 1, 32 * x, none⟩) (cwT s.length x) (cwT s.length x)) rfl (by kernel_rfl) (by kernel_rfl) (by kernel_rfl) (fun _ _ _ h => h) (Or.inl ⟨by rfl, ?_⟩) hS0 ?_
    · intro Y hY
      skip
      go_simp
    simp only [Act.put, List.getElem_toArray, List.getElem_cons_succ, List.getElem_cons_zero, List.setIfInBounds_toArray, List.set_cons_zero, List.set_cons_succ]
    refine wpAnyH_take (i := 2) (v := .string ⟨(partT s x).toArray⟩) rfl (by kernel_rfl) (by kernel_rfl) (by kernel_rfl) (fun _ _ _ h => h) (Or.inl ⟨by rfl, ?_⟩) hS0 ?_
    · intro Y hY
      have ec : ∀ cc, (convert 41 9 (.slice (some ⟨w.heap.size + 1, 32 * x, none⟩) (cwT s.length x) cc)).run Tryz.prog Y = .ok (.string ⟨(partT s x).toArray⟩) Y := fun cc => (Bs.part hY (32 * x) 32).convAt HPE.out.symm cc
      go_simp
    simp only [Act.put, List.getElem_toArray, List.getElem_cons_succ, List.getElem_cons_zero, List.setIfInBounds_toArray, List.set_cons_zero, List.set_cons_succ]
    refine wpAnyH_ready (rs := [0, 3]) (by kernel_rfl) (by simp) ?_
    refine AllReadyH.cons rfl (fun K hK => ?rA) (AllReadyH.cons rfl (fun K hK => ?rB) AllReadyH.nil)
    case' rA =>
      go_simp
      refine hK.out _ _ hS0 (fun _ => ?_)
      clear hK K
      simp only [List.setIfInBounds_toArray, List.set_cons_zero]
      refine wpAnyH_ready (rs := [3]) (by kernel_rfl) (by simp) ?_
      refine AllReadyH.cons rfl (fun K hK => ?_) AllReadyH.nil
      go_simp
      refine (HF.out _).mono ?_
      rintro e w5 ⟨rfl, hb5⟩
      have hS5 : Bs w5 (w.heap.size + 1) 0 s := hS0.below hb5 (by show _ < B.heap.size; omega)
      try go_wp2_with fail
      refine hK.out _ _ hS5 (fun _ => ?_)
      clear hK K
      simp only [List.setIfInBounds_toArray, List.set_cons_zero, List.set_cons_succ]
      refine wpAnyH_ready (rs := [4]) (by kernel_rfl) (by simp) ?_
      refine AllReadyH.cons rfl (fun K hK => ?_) AllReadyH.nil
      rw [if_pos (by rfl)]
      refine wp_build_one 22 9 (.tmp 12) (.string ⟨u.toArray⟩) (.string ⟨#[]⟩) i1 rfl rfl rfl Tryz.underlying22 hi1 hiz his rfl ?_
      have hS6 : Bs (w5.alloc (.cells #[.string ⟨u.toArray⟩] 9)) (w.heap.size + 1) 0 s := hS5.below ((Below.refl _ w5).alloc (Nat.le_refl _) _) (by have := hb5.size; show _ < w5.heap.size; have : B.drew.heap.size = B.heap.size := rfl; omega)
      refine hK.out _ _ hS6 (fun _ => ?_)
      clear hK K
      simp only [Act.put, List.getElem_toArray, List.getElem_cons_succ, List.getElem_cons_zero, List.setIfInBounds_toArray, List.set_cons_zero, List.set_cons_succ]
      skip
    case' rB =>
      go_simp
      refine (HF.out _).mono ?_
      rintro e w5 ⟨rfl, hb5⟩
      have hS5 : Bs w5 (w.heap.size + 1) 0 s := hS0.below hb5 (by show _ < B.heap.size; omega)
      try go_wp2_with fail
      refine hK.out _ _ hS5 (fun _ => ?_)
      clear hK K
      simp only [List.setIfInBounds_toArray, List.set_cons_zero, List.set_cons_succ]
      have hb5' : Below B.heap.size B w5 := hd0.trans hb5
      have y3 : w5.cell? ⟨w.heap.size, 0, none⟩ = some v := (hb5'.cell (p := ⟨w.heap.size, 0, none⟩) HB.out.lt).trans y1
      refine wpAnyH_ready (rs := [0, 4]) (by kernel_rfl) (by simp) ?_
      refine AllReadyH.cons rfl (fun K hK => ?rC) (AllReadyH.cons rfl (fun K hK => ?rD) AllReadyH.nil)
    case' rC =>
      go_simp
      refine hK.out _ _ hS5 (fun _ => ?_)
      clear hK K
      simp only [List.setIfInBounds_toArray, List.set_cons_zero]
      refine wpAnyH_ready (rs := [4]) (by kernel_rfl) (by simp) ?_
      refine AllReadyH.cons rfl (fun K hK => ?_) AllReadyH.nil
      rw [if_pos (by rfl)]
      refine wp_build_one 22 9 (.tmp 12) (.string ⟨u.toArray⟩) (.string ⟨#[]⟩) i1 rfl rfl rfl Tryz.underlying22 hi1 hiz his rfl ?_
      have hS6 : Bs (w5.alloc (.cells #[.string ⟨u.toArray⟩] 9)) (w.heap.size + 1) 0 s := hS5.below ((Below.refl _ w5).alloc (Nat.le_refl _) _) (by have := hb5.size; show _ < w5.heap.size; have : B.drew.heap.size = B.heap.size := rfl; omega)
      refine hK.out _ _ hS6 (fun _ => ?_)
      clear hK K
      simp only [Act.put, List.getElem_toArray, List.getElem_cons_succ, List.getElem_cons_zero, List.setIfInBounds_toArray, List.set_cons_zero, List.set_cons_succ]
      skip
    case' rD =>
      rw [if_pos (by rfl)]
      refine wp_build_one 22 9 (.tmp 12) (.string ⟨u.toArray⟩) (.string ⟨#[]⟩) i1 rfl rfl rfl Tryz.underlying22 hi1 hiz his rfl ?_
      have hS6 : Bs (w5.alloc (.cells #[.string ⟨u.toArray⟩] 9)) (w.heap.size + 1) 0 s := hS5.below ((Below.refl _ w5).alloc (Nat.le_refl _) _) (by have := hb5.size; show _ < w5.heap.size; have : B.drew.heap.size = B.heap.size := rfl; omega)
      refine hK.out _ _ hS6 (fun _ => ?_)
      clear hK K
      simp only [Act.put, List.getElem_toArray, List.getElem_cons_succ, List.getElem_cons_zero, List.setIfInBounds_toArray, List.set_cons_zero, List.set_cons_succ]
      refine wpAnyH_ready (rs := [0]) (by kernel_rfl) (by simp) ?_
      refine AllReadyH.cons rfl (fun K hK => ?_) AllReadyH.nil
      have y7 : (w5.alloc (.cells #[.string ⟨u.toArray⟩] 9)).cell? ⟨w.heap.size, 0, none⟩ = some v := (Below.cell ((Below.refl _ w5).alloc (Nat.le_refl _) _) (p := ⟨w.heap.size, 0, none⟩) (by have := HB.out.lt; have := hb5'.size; show w.heap.size < _; omega)).trans y3
      go_simp
      refine hK.out _ _ hS6 (fun _ => ?_)
      clear hK K
      simp only [List.setIfInBounds_toArray, List.set_cons_zero]
      skip
    all_goals
      have hb5' : Below B.heap.size B w5 := hd0.trans hb5
      obtain ⟨w6, hw6⟩ : ∃ w6, w5.alloc (.cells #[.string ⟨u.toArray⟩] 9) = w6 := ⟨_, rfl⟩
      have hb56 : Below w5.heap.size w5 w6 := by rw [← hw6]; exact (Below.refl _ _).alloc (Nat.le_refl _) _
      have hz6 : w6.heap.size = w5.heap.size + 1 := by rw [← hw6]; simp
      have hc6 : w6.cell? ⟨w5.heap.size, 0, none⟩ = some (.string ⟨u.toArray⟩) := by rw [← hw6]; simp [go_sem]
      have hb6 : Below B.heap.size B w6 := hb5'.trans (hb56.mono hb5'.size)
      have hgr6 := hgr.below hb6
      have hB6 : Boxed w6 w.heap.size 22 v := (hb6.block _ HB.out.lt).trans HB.out
      have hO6 := HO.out.from_ hb6
      have hs5 := hb5'.size
      rw [hw6] at hS6 ⊢
      clear hw6 y1
      refine wpAnyH_ready (rs := [5]) (by kernel_rfl) (by simp) ?_
      refine AllReadyH.cons rfl (fun K hK => ?_) AllReadyH.nil
      rw [if_pos (by rfl)]
      refine wp_append_txt w6 _ _ rfl (A.heap.size + 3) (f pre) u w5.heap.size v rfl rfl hO6 hc6 (by omega) (by omega) ?_
      intro v' w7 hA7
      obtain ⟨l7, hl7⟩ : ∃ l7, f pre ++ [u] = l7 := ⟨_, rfl⟩
      have hRT := RT.app hgr6 hB6 hO6 (by omega) hA7
      rw [hl7] at hA7 hRT
      obtain ⟨va, vc, hv⟩ := hA7.own.len
      subst hv
      have z7 := hRT.2.cell
      have z8 := hRT.2.frozen
      have HL7 := Lib.hid hl7
      clear hl7
      have hS7 : Bs w7 (w.heap.size + 1) 0 s := fun j hj => (World.cell?_of_block (hA7.grown.block (w.heap.size + 1) (by omega) (fun e => by have := (hO6.lt _ e.symm).1; omega))).trans (hS6 j hj)
      refine hK.out _ _ hS7 (fun _ => ?_)
      clear hK K
      simp only [Act.put, List.getElem_toArray, List.getElem_cons_succ, List.getElem_cons_zero, List.setIfInBounds_toArray, List.set_cons_zero, List.set_cons_succ]
      refine wpAnyH_ready (rs := [6]) (by kernel_rfl) (by simp) ?_
      refine AllReadyH.cons rfl (fun K hK => ?_) AllReadyH.nil
      go_simp
      have hS8 : Bs (w7.setCell ⟨w.heap.size, 0, none⟩ (.slice va l7.length vc)) (w.heap.size + 1) 0 s := fun j hj => (World.cell?_of_block (Below.heap_setCell _ _ _ _ (by show w.heap.size + 1 ≠ w.heap.size; omega))).trans (hS7 j hj)
      refine hK.out _ _ hS8 (fun _ => ?_)
      clear hK K
      simp only [List.setIfInBounds_toArray, List.set_cons_zero, List.set_cons_succ]
      refine wpAnyH_done (by kernel_rfl) ?_ _
      try gi_wp2_with fail
      refine ⟨((KO_below hb6).trans ((KO_appS hA7 hO6).trans (KeepsOthers.setCell _ _ _))).from _, fun c hc hT => hT.elim, ?_⟩
      show RT A w.heap.size (f (pre ++ [x])) _
      rw [HFX.out, HL7.out]
      exact hRT.1
  case done =>
    rintro D xs W hD rfl hI hKd hzW
    obtain ⟨v, hB, hO⟩ := hI.v
    have hbW : Below w.heap.size w W := Gr.low hbA hI.gr (by omega) (fun b e => by omega)
    have y := hB.cell
    obtain ⟨va, vc, hv⟩ := hO.len
    subst hv
    have hO2 : OwS (A.heap.size + 3) (f (List.range ((s.length + 31) / 32))) (.slice va (f (List.range ((s.length + 31) / 32))).length vc) (W.putObj D (.deferred none)) := hO.grown (grownBy_putObj' W D (.deferred none)) fun g hg e => by
      cases e
      exact hO.notCells hKd rfl hg.symm
    have HO2 := Lib.hid hO2
    have hb1 := belowK_b (w := w) (Nat.le_refl _) W D _ (.deferred none) (by omega) hKd rfl rfl
    have HB1 := Lib.hid (hbW.trans hb1)
    clear hO2 hO hB hb1 hfl hfs
    rw [HHF.out]
    refine wpE_then (n := 6) ?_
    gi_wp2_with fail
    refine WpE.of (n := 6) (wpIn_ret ?_)
    refine ⟨by simp, .inl ⟨_, _, rfl, run_takeDeferred hKd, ?_⟩⟩
    refine ⟨_, ?_, ⟨_, rfl, HO2.out.mono (by omega)⟩, HB1.out⟩
    simp [results, Tryz.f110, go_sem]
  case pan => rintro D ch W _ h _; exact h.elim
end Go.Proofs.YtaajkbclojmbeaaGreatDoor
namespace Go.Proofs.YtaajkbclojmbeaaGreatDoor
open Go Go.RowKit Go.Lib
open Go.Maps (Keyed)

/-- What is under a kind. -/
def fnT (kb ib : Nat) (k : Nat) : Value := match k with
  | 3 => .func (.func 49) #[] #[.pointer (some ⟨kb, 0, none⟩)]
  | 4 => .func (.func 52) #[] #[.pointer (some ⟨ib, 0, none⟩)]
  | 6 => .func (.func 53) #[] #[]
  | 7 => .func (.func 56) #[] #[.pointer (some ⟨kb, 0, none⟩)]
  | 8 => .func (.func 57) #[] #[.pointer (some ⟨kb, 0, none⟩)]
  | _ => .func (.func 45) #[] #[]
def putF (f : Nat → Value) (D : DataW Value) (i : Nat) : DataW Value := D.put (.int .i64 (i : Nat)) (.held (f i))
def DT (kb ib : Nat) : DataW Value := [1, 2, 5, 3, 4, 6, 7, 8].foldl (putF (fnT kb ib)) (.map [])
theorem fold_at (f : Nat → Value) (k : Nat) (z : DataW Value) : ∀ (l : List Nat) (D : DataW Value), Go.Maps.IsMap D → (l.foldl (putF f) D).atKey (.int .i64 (k : Nat)) z = if k ∈ l then .held (f k) else D.atKey (.int .i64 (k : Nat)) z
  | [], D, _ => by simp
  | i :: l, D, hD => by
    rw [List.foldl_cons, fold_at f k z l (putF f D i) (isMap_put hD _ _)]
    by_cases hl : k ∈ l
    · rw [if_pos hl, if_pos (by simp [hl])]
    · rw [if_neg hl]
      by_cases hi : k = i
      · subst hi
        rw [if_pos (by simp)]
        exact Go.Maps.atKey_put_same hD (by simp [WideAt.IsKeyLit]) _ _
      · rw [if_neg (by simp [hl, hi])]
        exact Go.Maps.atKey_put_other (by simp; omega) _ _

/-- The table of roots: the map, the box that holds it, the box of the function for rows. -/
structure Tbl (W : World) (n mb kb ib : Nat) : Prop where
  mlt : mb < n
  klt : kb < n
  ilt : ib < n
  own : W.ownsMap Tryz.prog 3 Rv mb 8 (DT kb ib)
  kbx : Boxed W kb 50 (.map (some mb))
  ibx : Boxed W ib 52 (.func (.func 49) #[] #[.pointer (some ⟨kb, 0, none⟩)])
theorem Tbl.from_ {w W : World} {n mb kb ib : Nat} (h : Tbl w n mb kb ib) (hb : Below n w W) : Tbl W n mb kb ib :=
  ⟨h.mlt, h.klt, h.ilt, own_at h.own (hb.block _ h.mlt), (hb.block _ h.klt).trans h.kbx, (hb.block _ h.ilt).trans h.ibx⟩
theorem Tbl.mono {w : World} {n m mb kb ib : Nat} (h : Tbl w n mb kb ib) (hm : n ≤ m) : Tbl w m mb kb ib :=
  ⟨Nat.lt_of_lt_of_le h.mlt hm, Nat.lt_of_lt_of_le h.klt hm, Nat.lt_of_lt_of_le h.ilt hm, h.own, h.kbx, h.ibx⟩
theorem wf8 : ∀ k : Fin 9, (Lit.int .i64 ((k.val : Nat) : Int)).wf = true := by decide
theorem grown_box {W W' : World} {b c : Nat} (hg : W.grownBy W' (some b)) (hc : c < W.heap.size) (hcb : c ≠ b) : W'.heap[c]? = W.heap[c]? := hg.block c hc (fun e => by cases e; exact hcb rfl)
theorem zero_fn (w : World) : (zeroValue 52).run Tryz.prog w = .ok .nilFunc w := by go_simp
theorem Tbl.look {W : World} {n mb kb ib : Nat} (h : Tbl W n mb kb ib) (k : Nat) (h1 : 1 ≤ k) (h8 : k ≤ 8) (W' : World) (hb : Below n W W') :
    (Instr.lookup 50 (.map (some mb)) (.int .i64 (k : Nat)) false).run Tryz.prog W' = .ok (fnT kb ib k) W' := by
  obtain ⟨es, clock, hbk, F, _, hD⟩ := (h.from_ hb).own
  have hk : k ∈ [1, 2, 5, 3, 4, 6, 7, 8] := by simp; omega
  have hat := fun z => fold_at (fnT kb ib) k z [1, 2, 5, 3, 4, 6, 7, 8] (.map []) ⟨_, rfl⟩
  simp only [if_pos hk] at hat
  change ∀ z, (DT kb ib).atKey _ z = _ at hat
  rw [hD] at hat
  have hw : (Lit.int .i64 (k : Nat)).wf = true := wf8 ⟨k, by omega⟩
  rcases Maps.fit_look (R := Rv) false intKeyed Tryz.underlying50 (zero_fn W') hbk F (keyI (k : Nat) hw) with ⟨_, _, h3⟩ | ⟨e0, y, _, _, h3, h4, h5, _⟩
  · have h1 := (h3 .nil).symm.trans (hat .nil)
    cases h1
  · have h1 := (h5 .nil).symm.trans (hat .nil)
    cases h4
    rw [h3, DataW.held.inj h1]
    rfl

set_option maxRecDepth 100000 in
set_option maxHeartbeats 8000000 in
theorem mtable_any (w : World) : Calls Tryz.prog 24 #[] w fun e w' => ∃ mb kb ib, e = .returned (.map (some mb)) ∧ Tbl w' w'.heap.size mb kb ib ∧ Below w.heap.size w w' := by
  have hmm := @run_makeMap Tryz.prog
  have hmf : ∀ (fn : Fn) (first cap : Array Value) (w : World), (Instr.makeFunc fn first cap).run Tryz.prog w = .ok (.func fn first cap) w := fun _ _ _ _ => rfl
  have hst : ∀ (W : World) (p : Addr) (F : Fn) (xa xb : Array Value), (W.cell? p).isSome = true → W.frozen? p = false → (store p (.func F xa xb)).run Tryz.prog W = .ok () (W.setCell p (.func F xa xb)) := by
    intro W p F xa xb h1 h2
    rw [run_store _ _ _ _ _ rfl]
    obtain ⟨x, hx⟩ := Option.isSome_iff_exists.1 h1
    rw [hx]
    simp [h2]
  obtain ⟨W0, hW0⟩ : ∃ W0, ((w.alloc (.cells #[.map none] 50)).alloc (.cells #[.func (.func 49) #[] #[.pointer (some ⟨w.heap.size, 0, none⟩)]] 52)).alloc (.map #[] 0) = W0 := ⟨_, rfl⟩
  have hs0 : w.heap.size + 2 < W0.heap.size := by rw [← hW0]; simp
  have ho0 : W0.ownsMap Tryz.prog 3 Rv (w.heap.size + 1 + 1) 0 (.map []) := by
    rw [← hW0]
    have := World.ownsMap_made (P := Tryz.prog) (k := 3) (R := Rv) ((w.alloc (.cells #[.map none] 50)).alloc (.cells #[.func (.func 49) #[] #[.pointer (some ⟨w.heap.size, 0, none⟩)]] 52))
    simpa using this
  have hi0 : W0.cell? ⟨w.heap.size + 1, 0, none⟩ = some (.func (.func 49) #[] #[.pointer (some ⟨w.heap.size, 0, none⟩)]) := by rw [← hW0]; simp [go_sem]
  have HB0 := Lib.hid (show Boxed W0 w.heap.size 50 (.map none) by rw [← hW0]; exact ((Boxed.new w _ _).alloc _).alloc _)
  have HI0 := Lib.hid (show Boxed W0 (w.heap.size + 1) 52 (.func (.func 49) #[] #[.pointer (some ⟨w.heap.size, 0, none⟩)]) by
    rw [← hW0]
    have := Boxed.new (w.alloc (.cells #[.map none] 50)) 52 (.func (.func 49) #[] #[.pointer (some ⟨w.heap.size, 0, none⟩)])
    rw [World.size_alloc] at this
    exact this.alloc _)
  have HL0 := Lib.hid (show Below w.heap.size w W0 by rw [← hW0]; (repeat (first | exact Below.refl _ _ | refine Below.drew ?_ | refine Below.alloc ?_ (by first | omega | (simp; omega) | simp) _ | refine Below.setCell ?_ (by first | omega | (simp; omega) | simp) _)))
  have HW0 := Lib.hid hW0
  clear hW0
  go_enter Tryz.func24, Tryz.ntmps24
  go_wp2_with (first
    | (rw [HW0.out]; refine wpList_insert_own rfl _ _ _ _ rfl 3 52 intKeyed Tryz.underlying50 Rv (w.heap.size + 1 + 1) 0 _ rfl ho0 (by decide) (.int .i64 1) (fnT w.heap.size (w.heap.size + 1) 1) (.int .i64 1) rfl rfl (keyI 1 (by decide)) _ _ rfl ?_
       intro W1 ho1 hg1
       have hs1 : w.heap.size + 2 < W1.heap.size := Nat.lt_of_lt_of_le hs0 hg1.size
       have hi1 : W1.cell? ⟨w.heap.size + 1, 0, none⟩ = some (.func (.func 49) #[] #[.pointer (some ⟨w.heap.size, 0, none⟩)]) := (World.cell?_of_block (grown_box hg1 (c := w.heap.size + 1) (by omega) (by omega))).trans hi0
       have HB1 := Lib.hid (show Boxed W1 w.heap.size 50 (.map none) from (grown_box hg1 (c := w.heap.size) (by omega) (by omega)).trans HB0.out)
       have HI1 := Lib.hid (show Boxed W1 (w.heap.size + 1) 52 (.func (.func 49) #[] #[.pointer (some ⟨w.heap.size, 0, none⟩)]) from (grown_box hg1 (c := w.heap.size + 1) (by omega) (by omega)).trans HI0.out)
       have HL1 := Lib.hid (Below.grow HL0.out hg1 (by omega))
       clear hi0 HB0 HI0 HL0 ho0 hg1 HW0)
    | (refine wpList_insert_own rfl _ _ _ _ rfl 3 52 intKeyed Tryz.underlying50 Rv (w.heap.size + 1 + 1) 1 _ rfl ho1 (by decide) (.int .i64 2) (fnT w.heap.size (w.heap.size + 1) 2) (.int .i64 2) rfl rfl (keyI 2 (by decide)) _ _ rfl ?_
       intro W2 ho2 hg2
       have hs2 : w.heap.size + 2 < W2.heap.size := Nat.lt_of_lt_of_le hs1 hg2.size
       have hi2 : W2.cell? ⟨w.heap.size + 1, 0, none⟩ = some (.func (.func 49) #[] #[.pointer (some ⟨w.heap.size, 0, none⟩)]) := (World.cell?_of_block (grown_box hg2 (c := w.heap.size + 1) (by omega) (by omega))).trans hi1
       have HB2 := Lib.hid (show Boxed W2 w.heap.size 50 (.map none) from (grown_box hg2 (c := w.heap.size) (by omega) (by omega)).trans HB1.out)
       have HI2 := Lib.hid (show Boxed W2 (w.heap.size + 1) 52 (.func (.func 49) #[] #[.pointer (some ⟨w.heap.size, 0, none⟩)]) from (grown_box hg2 (c := w.heap.size + 1) (by omega) (by omega)).trans HI1.out)
       have HL2 := Lib.hid (Below.grow HL1.out hg2 (by omega))
       clear hi1 HB1 HI1 HL1 ho1 hg2)
    | (refine wpList_insert_own rfl _ _ _ _ rfl 3 52 intKeyed Tryz.underlying50 Rv (w.heap.size + 1 + 1) 2 _ rfl ho2 (by decide) (.int .i64 5) (fnT w.heap.size (w.heap.size + 1) 5) (.int .i64 5) rfl rfl (keyI 5 (by decide)) _ _ rfl ?_
       intro W3 ho3 hg3
       have hs3 : w.heap.size + 2 < W3.heap.size := Nat.lt_of_lt_of_le hs2 hg3.size
       have hi3 : W3.cell? ⟨w.heap.size + 1, 0, none⟩ = some (.func (.func 49) #[] #[.pointer (some ⟨w.heap.size, 0, none⟩)]) := (World.cell?_of_block (grown_box hg3 (c := w.heap.size + 1) (by omega) (by omega))).trans hi2
       have HB3 := Lib.hid (show Boxed W3 w.heap.size 50 (.map none) from (grown_box hg3 (c := w.heap.size) (by omega) (by omega)).trans HB2.out)
       have HI3 := Lib.hid (show Boxed W3 (w.heap.size + 1) 52 (.func (.func 49) #[] #[.pointer (some ⟨w.heap.size, 0, none⟩)]) from (grown_box hg3 (c := w.heap.size + 1) (by omega) (by omega)).trans HI2.out)
       have HL3 := Lib.hid (Below.grow HL2.out hg3 (by omega))
       clear hi2 HB2 HI2 HL2 ho2 hg3)
    | (refine wpList_insert_own rfl _ _ _ _ rfl 3 52 intKeyed Tryz.underlying50 Rv (w.heap.size + 1 + 1) 3 _ rfl ho3 (by decide) (.int .i64 3) (fnT w.heap.size (w.heap.size + 1) 3) (.int .i64 3) rfl rfl (keyI 3 (by decide)) _ _ rfl ?_
       intro W4 ho4 hg4
       have hs4 : w.heap.size + 2 < W4.heap.size := Nat.lt_of_lt_of_le hs3 hg4.size
       have hi4 : W4.cell? ⟨w.heap.size + 1, 0, none⟩ = some (.func (.func 49) #[] #[.pointer (some ⟨w.heap.size, 0, none⟩)]) := (World.cell?_of_block (grown_box hg4 (c := w.heap.size + 1) (by omega) (by omega))).trans hi3
       have HB4 := Lib.hid (show Boxed W4 w.heap.size 50 (.map none) from (grown_box hg4 (c := w.heap.size) (by omega) (by omega)).trans HB3.out)
       have HI4 := Lib.hid (show Boxed W4 (w.heap.size + 1) 52 (.func (.func 49) #[] #[.pointer (some ⟨w.heap.size, 0, none⟩)]) from (grown_box hg4 (c := w.heap.size + 1) (by omega) (by omega)).trans HI3.out)
       have HL4 := Lib.hid (Below.grow HL3.out hg4 (by omega))
       clear hi3 HB3 HI3 HL3 ho3 hg4)
    | (refine wpList_insert_own rfl _ _ _ _ rfl 3 52 intKeyed Tryz.underlying50 Rv (w.heap.size + 1 + 1) 4 _ rfl ho4 (by decide) (.int .i64 4) (fnT w.heap.size (w.heap.size + 1) 4) (.int .i64 4) rfl rfl (keyI 4 (by decide)) _ _ rfl ?_
       intro W5 ho5 hg5
       have hs5 : w.heap.size + 2 < W5.heap.size := Nat.lt_of_lt_of_le hs4 hg5.size
       have hi5 : W5.cell? ⟨w.heap.size + 1, 0, none⟩ = some (.func (.func 49) #[] #[.pointer (some ⟨w.heap.size, 0, none⟩)]) := (World.cell?_of_block (grown_box hg5 (c := w.heap.size + 1) (by omega) (by omega))).trans hi4
       have HB5 := Lib.hid (show Boxed W5 w.heap.size 50 (.map none) from (grown_box hg5 (c := w.heap.size) (by omega) (by omega)).trans HB4.out)
       have HI5 := Lib.hid (show Boxed W5 (w.heap.size + 1) 52 (.func (.func 49) #[] #[.pointer (some ⟨w.heap.size, 0, none⟩)]) from (grown_box hg5 (c := w.heap.size + 1) (by omega) (by omega)).trans HI4.out)
       have HL5 := Lib.hid (Below.grow HL4.out hg5 (by omega))
       clear hi4 HB4 HI4 HL4 ho4 hg5)
    | (refine wpList_insert_own rfl _ _ _ _ rfl 3 52 intKeyed Tryz.underlying50 Rv (w.heap.size + 1 + 1) 5 _ rfl ho5 (by decide) (.int .i64 6) (fnT w.heap.size (w.heap.size + 1) 6) (.int .i64 6) rfl rfl (keyI 6 (by decide)) _ _ rfl ?_
       intro W6 ho6 hg6
       have hs6 : w.heap.size + 2 < W6.heap.size := Nat.lt_of_lt_of_le hs5 hg6.size
       have hi6 : W6.cell? ⟨w.heap.size + 1, 0, none⟩ = some (.func (.func 49) #[] #[.pointer (some ⟨w.heap.size, 0, none⟩)]) := (World.cell?_of_block (grown_box hg6 (c := w.heap.size + 1) (by omega) (by omega))).trans hi5
       have HB6 := Lib.hid (show Boxed W6 w.heap.size 50 (.map none) from (grown_box hg6 (c := w.heap.size) (by omega) (by omega)).trans HB5.out)
       have HI6 := Lib.hid (show Boxed W6 (w.heap.size + 1) 52 (.func (.func 49) #[] #[.pointer (some ⟨w.heap.size, 0, none⟩)]) from (grown_box hg6 (c := w.heap.size + 1) (by omega) (by omega)).trans HI5.out)
       have HL6 := Lib.hid (Below.grow HL5.out hg6 (by omega))
       clear hi5 HB5 HI5 HL5 ho5 hg6)
    | (refine wpList_insert_own rfl _ _ _ _ rfl 3 52 intKeyed Tryz.underlying50 Rv (w.heap.size + 1 + 1) 6 _ rfl ho6 (by decide) (.int .i64 7) (fnT w.heap.size (w.heap.size + 1) 7) (.int .i64 7) rfl rfl (keyI 7 (by decide)) _ _ rfl ?_
       intro W7 ho7 hg7
       have hs7 : w.heap.size + 2 < W7.heap.size := Nat.lt_of_lt_of_le hs6 hg7.size
       have hi7 : W7.cell? ⟨w.heap.size + 1, 0, none⟩ = some (.func (.func 49) #[] #[.pointer (some ⟨w.heap.size, 0, none⟩)]) := (World.cell?_of_block (grown_box hg7 (c := w.heap.size + 1) (by omega) (by omega))).trans hi6
       have HB7 := Lib.hid (show Boxed W7 w.heap.size 50 (.map none) from (grown_box hg7 (c := w.heap.size) (by omega) (by omega)).trans HB6.out)
       have HI7 := Lib.hid (show Boxed W7 (w.heap.size + 1) 52 (.func (.func 49) #[] #[.pointer (some ⟨w.heap.size, 0, none⟩)]) from (grown_box hg7 (c := w.heap.size + 1) (by omega) (by omega)).trans HI6.out)
       have HL7 := Lib.hid (Below.grow HL6.out hg7 (by omega))
       clear hi6 HB6 HI6 HL6 ho6 hg7)
    | (refine wpList_insert_own rfl _ _ _ _ rfl 3 52 intKeyed Tryz.underlying50 Rv (w.heap.size + 1 + 1) 7 _ rfl ho7 (by decide) (.int .i64 8) (fnT w.heap.size (w.heap.size + 1) 8) (.int .i64 8) rfl rfl (keyI 8 (by decide)) _ _ rfl ?_
       intro W8 ho8 hg8
       have hs8 : w.heap.size + 2 < W8.heap.size := Nat.lt_of_lt_of_le hs7 hg8.size
       have hi8 : W8.cell? ⟨w.heap.size + 1, 0, none⟩ = some (.func (.func 49) #[] #[.pointer (some ⟨w.heap.size, 0, none⟩)]) := (World.cell?_of_block (grown_box hg8 (c := w.heap.size + 1) (by omega) (by omega))).trans hi7
       have HB8 := Lib.hid (show Boxed W8 w.heap.size 50 (.map none) from (grown_box hg8 (c := w.heap.size) (by omega) (by omega)).trans HB7.out)
       have HI8 := Lib.hid (show Boxed W8 (w.heap.size + 1) 52 (.func (.func 49) #[] #[.pointer (some ⟨w.heap.size, 0, none⟩)]) from (grown_box hg8 (c := w.heap.size + 1) (by omega) (by omega)).trans HI7.out)
       have HL8 := Lib.hid (Below.grow HL7.out hg8 (by omega))
       have z7 := HB8.out.cell
       have z8 := HB8.out.frozen
       clear hi7 HB7 HI7 HL7 ho7 hg8))
  go_ret
  have hD : W8.ownsMap Tryz.prog 3 Rv (w.heap.size + 1 + 1) 8 (DT w.heap.size (w.heap.size + 1)) := ho8
  refine ⟨w.heap.size + 1 + 1, w.heap.size, w.heap.size + 1, rfl, ⟨?_, ?_, ?_, own_at hD (Below.heap_setCell _ _ _ _ (by show _ ≠ w.heap.size; omega)), HB8.out.set _, HI8.out.other (by omega) _⟩, HL8.out.grown (grownBy_setCell' _ _ _) HL8.out.size (fun j e => by cases e; exact Nat.le_refl _)⟩
  · simp; omega
  · simp; omega
  · simp; omega
end Go.Proofs.YtaajkbclojmbeaaGreatDoor
namespace Go.Proofs.YtaajkbclojmbeaaGreatDoor
open Go Go.RowKit Go.Lib
attribute [local go_sem] Oper.semAt_some

set_option maxRecDepth 100000 in
set_option maxHeartbeats 4000000 in
theorem put_step (z : Nat) (ih : Hid (PutC z)) : PutC (z + 1) := by
  intro k n ts a cap N bs us p ab cb au cu w hs hL hV hc hf h1 h2
  obtain ⟨w0, hw0⟩ : ∃ w0, (w.alloc (.cells #[.int .i64 k, .int .i64 n, .slice a ts.length cap] 32)).alloc (.cells #[.int .u64 (M.pt 0 N), .int .u64 (M.pt 1 N), .int .u64 (M.pt 2 N), .int .u64 (M.pt 3 N), .slice ab bs.length cb, .slice au us.length cu, .int .i64 p] 38) = w0 := ⟨_, rfl⟩
  have hb0 : Below w.heap.size w w0 := by rw [← hw0]; exact two_boxesV _ _ _ _ _ _ _ _
  have hB0 : BoxT w0 w.heap.size k n (.slice a ts.length cap) := by rw [← hw0]; exact ⟨by simp [go_sem], by simp [go_sem], by simp [go_sem]⟩
  have hA0 : Cells7 w0 (w.heap.size + 1) 0 N (.slice ab bs.length cb) (.slice au us.length cu) p := by
    rw [← hw0]
    have := Cells7.new (w.alloc (.cells #[.int .i64 k, .int .i64 n, .slice a ts.length cap] 32)) N (.slice ab bs.length cb) (.slice au us.length cu) p 38
    rwa [World.size_alloc] at this
  have HW := Lib.hid hw0
  have HL0 := (hL.from_ hb0).mono hb0.size
  have HV0 := (hV.from_ hb0).mono hb0.size
  have HB : Hid (Calls Tryz.prog 166 #[tv k n (.slice a ts.length cap), vv N (.slice ab bs.length cb) (.slice au us.length cu) p] w0 (BytP w0 (M.putV (.mk k n ts) (.mk N bs us p)))) := by
    show Calls _ _ _ _ _
    by_cases k1 : k = 1
    · subst k1; exact byt_1 n ts a cap N bs us p ab cb au cu w0 HL0 HV0 hc hf h1 h2
    by_cases k2 : k = 2
    · subst k2; exact byt_2 n ts a cap N bs us p ab cb au cu w0 HL0 HV0 hc hf h1 h2
    by_cases k5 : k = 5
    · subst k5; exact byt_5 n ts a cap N bs us p ab cb au cu w0 HL0 HV0 hc hf h1 h2
    by_cases k6 : k = 6
    · subst k6; exact byt_6 n ts a cap N bs us p ab cb au cu w0 HL0 HV0 hc hf h1 h2
    by_cases k8 : k = 8
    · subst k8; exact byt_8 z ih n ts a cap N bs us p ab cb au cu w0 hs HL0 HV0 hc hf h1 h2
    · exact byt_row z ih k (by obtain ⟨d, hd⟩ := hc; have := (M.chkT_ok.1 hd).1; omega) n ts a cap N bs us p ab cb au cu w0 hs HL0 HV0 hc hf h1 h2
  have t0 := hB0.c0
  have t1 := hB0.c1
  have t2 := hB0.c2
  have a0 := hA0.c0
  have a1 := hA0.c1
  have a2 := hA0.c2
  have a3 := hA0.c3
  have a4 := hA0.c4
  have a5 := hA0.c5
  have a6 := hA0.c6
  simp only [Nat.zero_add] at a1 a2 a3 a4 a5 a6
  rw [← HW.out] at t0 t1 t2 a0 a1 a2 a3 a4 a5 a6
  generalize M.putV (.mk k n ts) (.mk N bs us p) = L at *
  clear hw0 hf hc ih hs h1 h2 HL0 HV0 hL hV
  go_enter Tryz.func144, Tryz.ntmps144
  go_wp2_with fail
  rw [HW.out]
  refine HB.out.mono ?_
  rintro e w1 ⟨hE, hb1⟩
  rcases hE with ⟨u, rfl, hU⟩ | ⟨rfl, hlt⟩
  · obtain ⟨ux, uy, rfl⟩ := hU.slice
    have HU := Lib.hid hU
    clear hU
    by_cases hl : L.length ≤ 65536
    · have hl' : (L.length : Int) ≤ 65536 := by omega
      have HN := Lib.hid (need_any true 5)
      go_wp2_with fail
      refine (HN.out _).mono ?_
      rintro e X ⟨rfl, hX⟩
      obtain rfl : w1 = X := hX.symm
      go_wp2_with fail
      go_ret
      exact ⟨fun _ => ⟨_, rfl, HU.out.mono hb0.size⟩, fun h => absurd h (by omega), hb0.trans (Below.mono hb1 hb0.size)⟩
    · have hl' : ¬ (L.length : Int) ≤ 65536 := by omega
      have HN := Lib.hid (need_any false 5)
      go_wp2_with fail
      rw [show decide ((L.length : Int) ≤ 65536) = false from decide_eq_false (by omega)]
      refine (HN.out _).mono ?_
      rintro e X ⟨rfl, hX⟩
      obtain rfl : w1 = X := hX.symm
      exact ⟨rfl, fun h => absurd h hl, fun _ => rfl, hb0.trans (Below.mono hb1 hb0.size)⟩
  · exact ⟨rfl, fun h => absurd hlt (by omega), fun _ => rfl, hb0.trans (Below.mono hb1 hb0.size)⟩
theorem put_c : ∀ z, PutC z
  | 0 => by intro k n ts a cap N bs us p ab cb au cu w hs; cases us <;> simp at hs
  | z + 1 => put_step z (Lib.hid (put_c z))

theorem SrB.conv {B : Nat} {l : List UInt8} {v : Value} {w : World} (h : SrB B l v w) : (convert 41 9 v).run Tryz.prog w = .ok (.string ⟨l.toArray⟩) w := by
  rcases h with ⟨rfl, rfl⟩ | ⟨ad, c, rfl, _, _, hc⟩
  · rw [run_convert_bytes_string w 41 9 5 none 0 0 Tryz.underlying41 Tryz.underlying5 Tryz.underlying9]
    rfl
  · refine run_convert_bytes_back w 41 9 5 ad c l Tryz.underlying41 Tryz.underlying5 Tryz.underlying9 ?_
    intro j hj
    exact hc j _ (by simp [bc, hj])

set_option maxRecDepth 100000 in
set_option maxHeartbeats 4000000 in
theorem put1_any (k n : Int) (ts : List M.Ty) (a : Option Addr) (cap : Nat) (N : Nat) (bs : List Bool) (us : List M.Va) (p : Int) (ab : Option Addr) (cb : Nat) (au : Option Addr) (cu : Nat) (bt bv bo : Nat) (W : World) (hL : LayT W W.heap.size ts (.slice a ts.length cap)) (hV : Vl W W.heap.size N bs us ab cb au cu)
    (hc : ∃ d, M.chkT d (.mk k n ts) = 0) (hf : M.fitV (.mk k n ts) (.mk N bs us p) = 0) (h1 : M.cntT (.mk k n ts) ≤ 1000) (h2 : M.cntV (.mk N bs us p) ≤ 6000)
    (hB : BoxT W bt k n (.slice a ts.length cap)) (hA : Cells7 W bv 0 N (.slice ab bs.length cb) (.slice au us.length cu) p) (hO : Boxed W bo 9 (.string ⟨#[]⟩)) :
    Calls Tryz.prog 143 #[.pointer (some ⟨bt, 0, none⟩), .pointer (some ⟨bv, 0, none⟩), .pointer (some ⟨bo, 0, none⟩)] W fun e w' =>
      ((M.putV (.mk k n ts) (.mk N bs us p)).length ≤ 65536 → e = .returned (.tuple #[]) ∧ ∃ w1, Below W.heap.size W w1 ∧ w' = w1.setCell ⟨bo, 0, none⟩ (.string ⟨(M.putV (.mk k n ts) (.mk N bs us p)).toArray⟩)) ∧
      (65536 < (M.putV (.mk k n ts) (.mk N bs us p)).length → e = pan 5 ∧ Below W.heap.size W w') := by
  have HC := Lib.hid (put_c _ k n ts a cap N bs us p ab cb au cu W (Nat.le_refl _) hL hV hc hf h1 h2)
  have t0 := hB.c0
  have t1 := hB.c1
  have t2 := hB.c2
  have a0 := hA.c0
  have a1 := hA.c1
  have a2 := hA.c2
  have a3 := hA.c3
  have a4 := hA.c4
  have a5 := hA.c5
  have a6 := hA.c6
  simp only [Nat.zero_add] at a1 a2 a3 a4 a5 a6
  generalize M.putV (.mk k n ts) (.mk N bs us p) = L at *
  clear hf hc h1 h2 hL hV
  go_enter Tryz.func143, Tryz.ntmps143
  go_wp2_with fail
  refine HC.out.mono ?_
  rintro e w1 ⟨hok, hno, hb1⟩
  rcases Nat.lt_or_ge 65536 L.length with hl | hl
  · rw [hno hl]
    exact ⟨rfl, fun h => absurd hl (by omega), fun _ => ⟨rfl, hb1⟩⟩
  · obtain ⟨u, rfl, hU⟩ := hok hl
    obtain ⟨ux, uy, rfl⟩ := hU.slice
    have hcv := hU.conv
    have hO1 : Boxed w1 bo 9 (.string ⟨#[]⟩) := (hb1.block _ hO.lt).trans hO
    have y1 := hO1.cell
    have y2 := hO1.frozen
    have HL := Lib.hid hl
    clear hok hno hU hl
    go_wp2_with fail
    go_end0
    exact ⟨fun _ => ⟨rfl, w1, hb1, rfl⟩, fun h => absurd h (by have := HL.out; omega)⟩

theorem boxT_below {w W : World} {b : Nat} {k n : Int} {v : Value} (h : BoxT w b k n v) (hb : Below w.heap.size w W) (hlt : b < w.heap.size) : BoxT W b k n v :=
  ⟨(hb.cell (p := ⟨b, 0, none⟩) hlt).trans h.c0, (hb.cell (p := ⟨b, 1, none⟩) hlt).trans h.c1, (hb.cell (p := ⟨b, 2, none⟩) hlt).trans h.c2⟩
set_option maxRecDepth 100000 in
set_option maxHeartbeats 4000000 in
theorem ssz_put : SPutOk := by
  intro k n ts a cap N bs us p ab cb au cu w hL hV h1 h2
  obtain ⟨w0, hw0⟩ : ∃ w0, (w.alloc (.cells #[.int .i64 k, .int .i64 n, .slice a ts.length cap] 32)).alloc (.cells #[.int .u64 (M.pt 0 N), .int .u64 (M.pt 1 N), .int .u64 (M.pt 2 N), .int .u64 (M.pt 3 N), .slice ab bs.length cb, .slice au us.length cu, .int .i64 p] 38) = w0 := ⟨_, rfl⟩
  have hb0 : Below w.heap.size w w0 := by rw [← hw0]; exact two_boxesV _ _ _ _ _ _ _ _
  have hz0 : w.heap.size + 2 ≤ w0.heap.size := by rw [← hw0]; simp
  have hB0 : BoxT w0 w.heap.size k n (.slice a ts.length cap) := by rw [← hw0]; exact ⟨by simp [go_sem], by simp [go_sem], by simp [go_sem]⟩
  have hA0 : Cells7 w0 (w.heap.size + 1) 0 N (.slice ab bs.length cb) (.slice au us.length cu) p := by
    rw [← hw0]
    have := Cells7.new (w.alloc (.cells #[.int .i64 k, .int .i64 n, .slice a ts.length cap] 32)) N (.slice ab bs.length cb) (.slice au us.length cu) p 38
    rwa [World.size_alloc] at this
  have HW := Lib.hid hw0
  have HL0 := Lib.hid ((hL.from_ hb0).mono hb0.size)
  have HV0 := Lib.hid ((hV.from_ hb0).mono hb0.size)
  have HF := Lib.hid (shape_fits k n ts a cap N bs us p ab cb au cu w0 HL0.out HV0.out h1 h2)
  have t0 := hB0.c0
  have t1 := hB0.c1
  have t2 := hB0.c2
  have a0 := hA0.c0
  have a1 := hA0.c1
  have a2 := hA0.c2
  have a3 := hA0.c3
  have a4 := hA0.c4
  have a5 := hA0.c5
  have a6 := hA0.c6
  simp only [Nat.zero_add] at a1 a2 a3 a4 a5 a6
  rw [← HW.out] at t0 t1 t2 a0 a1 a2 a3 a4 a5 a6
  have hmf : ∀ (fn : Fn) (first cap : Array Value) (w : World), (Instr.makeFunc fn first cap).run Tryz.prog w = .ok (.func fn first cap) w := fun _ _ _ _ => rfl
  have HP : Hid (M.putT (.mk k n ts) (.mk N bs us p) = if M.fitsV (.mk k n ts) (.mk N bs us p) ≠ 0 then ([], M.fitsV (.mk k n ts) (.mk N bs us p)) else if 65536 < (M.putV (.mk k n ts) (.mk N bs us p)).length then ([], 5) else (M.putV (.mk k n ts) (.mk N bs us p), 0)) := rfl
  clear hw0 hL hV
  by_cases hq : M.fitsV (.mk k n ts) (.mk N bs us p) = 0
  · have hc0 := M.fitsV_fits hq
    have hf0 : M.fitV (.mk k n ts) (.mk N bs us p) = 0 := by rw [← M.fitsV_in hc0]; exact hq
    rw [hq] at HF
    have HP' : Hid (M.putT (.mk k n ts) (.mk N bs us p) = if 65536 < (M.putV (.mk k n ts) (.mk N bs us p)).length then ([], 5) else (M.putV (.mk k n ts) (.mk N bs us p), 0)) := by
      show _ = _
      rw [HP.out, if_neg (by simp [hq])]
    have hen : ∀ args w, (callFunc 143 args).run Tryz.prog w = .ok (.enter 143 args) w := by
      intro args w
      simp [callFunc, go_sem, Tryz.f143]
    have HG : Hid (∀ w1 : World, Below w0.heap.size w0 w1 → Calls Tryz.prog 142 #[.func (.func 143) #[] #[.pointer (some ⟨w.heap.size, 0, none⟩), .pointer (some ⟨w.heap.size + 1, 0, none⟩), .pointer (some ⟨w1.heap.size, 0, none⟩)]] (w1.alloc (.cells #[.string ⟨#[]⟩] 9)) fun e w' =>
        ∃ q : Nat, e = .returned (.int .i64 (q : Nat)) ∧ Boxed w' w1.heap.size 9 (.string ⟨(M.putT (.mk k n ts) (.mk N bs us p)).1.toArray⟩) ∧ q = (M.putT (.mk k n ts) (.mk N bs us p)).2 ∧ Below w0.heap.size w0 w') := by
      intro w1 hb1
      obtain ⟨w2, hw2⟩ : ∃ w2, w1.alloc (.cells #[.string ⟨#[]⟩] 9) = w2 := ⟨_, rfl⟩
      have hO2 : Boxed w2 w1.heap.size 9 (.string ⟨#[]⟩) := by rw [← hw2]; exact Boxed.new _ _ _
      have hb2 : Below w0.heap.size w0 w2 := by rw [← hw2]; exact hb1.alloc hb1.size _
      have hz2 : w2.heap.size = w1.heap.size + 1 := by rw [← hw2]; simp
      rw [hw2]
      have hb3 : Below w2.heap.size w2 (w2.alloc (.cells #[.int .i64 0] 25)) := (Below.refl _ _).alloc (Nat.le_refl _) _
      have hb03 : Below w0.heap.size w0 (w2.alloc (.cells #[.int .i64 0] 25)) := hb2.trans (hb3.mono hb2.size)
      have hE3 : Boxed (w2.alloc (.cells #[.int .i64 0] 25)) w2.heap.size 25 (.int .i64 0) := Boxed.new _ _ _
      have hO3 : Boxed (w2.alloc (.cells #[.int .i64 0] 25)) w1.heap.size 9 (.string ⟨#[]⟩) := (hb3.block _ hO2.lt).trans hO2
      have hb1s := hb1.size
      have H1 := put1_any k n ts a cap N bs us p ab cb au cu w.heap.size (w.heap.size + 1) w1.heap.size (w2.alloc (.cells #[.int .i64 0] 25)) ((HL0.out.from_ hb03).mono hb03.size) ((HV0.out.from_ hb03).mono hb03.size) ⟨0, hc0⟩ hf0 h1 h2 (boxT_below hB0 hb03 (by omega)) (hA0.from_ hb03 (by omega)) hO3
      refine (given_any 143 _ hen w2 (fun q W => Boxed W w1.heap.size 9 (.string ⟨(M.putT (.mk k n ts) (.mk N bs us p)).1.toArray⟩) ∧ q = (M.putT (.mk k n ts) (.mk N bs us p)).2 ∧ Below w0.heap.size w0 W ∧ w2.heap.size < W.heap.size) (H1.mono ?_)).mono ?_
      · rintro e w' ⟨hok, hno⟩
        rw [HP'.out]
        rcases Nat.lt_or_ge 65536 (M.putV (.mk k n ts) (.mk N bs us p)).length with hl | hl
        · obtain ⟨rfl, hb4⟩ := hno hl
          rw [if_pos hl]
          have hs4 := hb4.size
          exact ⟨5, rfl, ⟨(hb4.block _ hO3.lt).trans hO3, rfl, hb03.trans (hb4.mono hb03.size), by simp at hs4; omega⟩, (hb4.block _ hE3.lt).trans hE3⟩
        · obtain ⟨rfl, w4, hb4, rfl⟩ := hok hl
          rw [if_neg (by omega)]
          have hs4 := hb4.size
          have hs5 := (grownBy_setCell' w4 w1.heap.size (.string ⟨(M.putV (.mk k n ts) (.mk N bs us p)).toArray⟩)).size
          refine ⟨0, rfl, ⟨(show Boxed w4 w1.heap.size 9 (.string ⟨#[]⟩) from (hb4.block _ hO3.lt).trans hO3).set _, rfl, (hb03.trans (hb4.mono hb03.size)).grown (grownBy_setCell' _ _ _) (by have := hb03.size; omega) (fun q e => by cases e; omega), by simp at hs4; omega⟩, (show Boxed w4 w2.heap.size 25 (.int .i64 0) from (hb4.block _ hE3.lt).trans hE3).other (by omega) _⟩
      · rintro e w' ⟨q, W, rfl, ⟨hB, hq2, hbW, hsW⟩, rfl⟩
        exact ⟨q, rfl, hB.other (by omega) _, hq2, hbW.grown (grownBy_setCell' _ _ _) hbW.size (fun r e => by cases e; have := hb2.size; omega)⟩
    generalize M.putT (.mk k n ts) (.mk N bs us p) = g at *
    clear hq hc0 hf0 HP HP' h1 h2 hen hz0
    go_enter Tryz.func111, Tryz.ntmps111
    go_wp2_with fail
    rw [HW.out]
    refine HF.out.mono ?_
    rintro e w1 ⟨rfl, hb1⟩
    go_wp2_with fail
    refine (HG.out w1 hb1).mono ?_
    rintro e w2 ⟨q, rfl, hO, rfl, hb2⟩
    have y1 := hO.cell
    go_wp2_with fail
    go_ret2
    exact ⟨rfl, hb0.trans (Below.mono hb2 hb0.size)⟩
  · rw [if_pos hq] at HP
    generalize M.fitsV (.mk k n ts) (.mk N bs us p) = q at *
    rw [HP.out]
    have hq1 : ¬ (q : Int) = 0 := by omega
    go_enter Tryz.func111, Tryz.ntmps111
    go_wp2_with fail
    rw [HW.out]
    refine HF.out.mono ?_
    rintro e w1 ⟨rfl, hb1⟩
    go_wp2_with fail
    go_ret2
    exact ⟨rfl, hb0.trans (Below.mono hb1 hb0.size)⟩
end Go.Proofs.YtaajkbclojmbeaaGreatDoor
namespace Go.Proofs.YtaajkbclojmbeaaGreatDoor
open Go Go.RowKit Go.Shelf Go.Lib
attribute [local go_sem] Oper.semAt_some

set_option maxRecDepth 100000 in
set_option maxHeartbeats 4000000 in
theorem packed_any (s : List UInt8) (most : Nat) (w : World) (hl : s.length ≤ 100000) (hm : most ≤ 16384) (hTab : Tab w) :
    Calls Tryz.prog 46 #[.string ⟨s.toArray⟩, .int .i64 (most : Nat)] w fun e w' => e = .returned (.string ⟨(M.packT s most).toArray⟩) ∧ Below w.heap.size w w' := by
  have HC := Lib.hid (cut32_any s w hl)
  have hall := M.chunks_all s
  have hcl := M.chunks_length s
  obtain ⟨T, hT⟩ : ∃ T, M.packT s most = T := ⟨_, rfl⟩
  have hT' : M.treeT (M.chunksT s) ((most + 31) / 32) = T := hT
  obtain ⟨q, hq⟩ : ∃ q, (most + 31) / 32 = q := ⟨_, rfl⟩
  obtain ⟨m1, hm1⟩ : ∃ m1, most + 31 = m1 := ⟨_, rfl⟩
  rw [hT]
  rw [hq] at hT'
  rw [hm1] at hq
  have hq9 : q ≤ 512 := by omega
  have hmi : (most : Int) + 32 - 1 = (m1 : Int) := by omega
  have hqi : (m1 : Int).tdiv 32 = (q : Int) := by
    rw [Int.tdiv_eq_ediv_of_nonneg (by omega)]
    omega
  generalize M.chunksT s = ls at *
  have HT := Lib.hid hT'
  have HALL := Lib.hid hall
  have hl4 : ls.length ≤ 4000 := by omega
  have HL4 := Lib.hid hl4
  clear hT hT' hq hm1 hall hcl hl4
  go_enter Tryz.func46, Tryz.ntmps46
  go_wp2_with fail
  refine HC.out.mono ?_
  rintro e w1 ⟨⟨v, rfl, hO⟩, hb1⟩
  obtain ⟨a, cap, hv⟩ := hO.len
  subst hv
  have HM := Lib.hid (mtree_any ls q a cap w1 hO.ts HL4.out HALL.out hq9 (hTab.from hb1))
  rw [HT.out] at HM
  clear hO
  go_wp2_with fail
  refine HM.out.mono ?_
  rintro e w2 ⟨rfl, hb2⟩
  go_wp2_with fail
  go_ret
  exact ⟨rfl, hb1.trans (hb2.mono hb1.size)⟩
set_option maxRecDepth 100000 in
set_option maxHeartbeats 4000000 in
theorem mput_any (k n : Int) (ts : List M.Ty) (at_ : Option Addr) (ct : Nat) (N : Nat) (bs : List Bool) (us : List M.Va) (p : Int) (ab : Option Addr) (cb : Nat) (au : Option Addr) (cu : Nat) (w : World) (hT : LayT w w.heap.size ts (.slice at_ ts.length ct)) (hV : Vl w w.heap.size N bs us ab cb au cu) (h1 : M.cntT (.mk k n ts) ≤ 1000) (h2 : M.cntV (.mk N bs us p) ≤ 6000) :
    Calls Tryz.prog 47 #[tv k n (.slice at_ ts.length ct), vv N (.slice ab bs.length cb) (.slice au us.length cu) p] w fun e w' => e = .returned (.string ⟨(M.putT (.mk k n ts) (.mk N bs us p)).1.toArray⟩) ∧ Below w.heap.size w w' := by
  obtain ⟨w0, hw0⟩ : ∃ w0, (w.alloc (.cells #[.int .i64 k, .int .i64 n, .slice at_ ts.length ct] 32)).alloc (.cells #[.int .u64 (M.pt 0 N), .int .u64 (M.pt 1 N), .int .u64 (M.pt 2 N), .int .u64 (M.pt 3 N), .slice ab bs.length cb, .slice au us.length cu, .int .i64 p] 38) = w0 := ⟨_, rfl⟩
  have hb0 : Below w.heap.size w w0 := by rw [← hw0]; exact two_boxes _ _ _
  have hB0 : BoxT w0 w.heap.size k n (.slice at_ ts.length ct) := by rw [← hw0]; exact ⟨by simp [go_sem], by simp [go_sem], by simp [go_sem]⟩
  have hA0 : Cells7 w0 (w.heap.size + 1) 0 N (.slice ab bs.length cb) (.slice au us.length cu) p := by
    rw [← hw0]
    have := Cells7.new (w.alloc (.cells #[.int .i64 k, .int .i64 n, .slice at_ ts.length ct] 32)) N (.slice ab bs.length cb) (.slice au us.length cu) p 38
    rwa [World.size_alloc] at this
  have HP := Lib.hid (ssz_put k n ts at_ ct N bs us p ab cb au cu w0 ((hT.from_ hb0).mono hb0.size) ((hV.from_ hb0).mono hb0.size) h1 h2)
  generalize M.putT (.mk k n ts) (.mk N bs us p) = r at *
  obtain ⟨s, x⟩ := r
  simp only at HP
  have t0 := hB0.c0
  have t1 := hB0.c1
  have t2 := hB0.c2
  have a0 := hA0.c0
  have a1 := hA0.c1
  have a2 := hA0.c2
  have a3 := hA0.c3
  have a4 := hA0.c4
  have a5 := hA0.c5
  have a6 := hA0.c6
  simp only [Nat.zero_add] at a1 a2 a3 a4 a5 a6
  have HW := Lib.hid hw0
  rw [← HW.out] at t0 t1 t2 a0 a1 a2 a3 a4 a5 a6
  clear hw0
  go_enter Tryz.func47, Tryz.ntmps47
  go_wp2_with fail
  rw [HW.out]
  refine HP.out.mono ?_
  rintro e w1 ⟨rfl, hb1⟩
  go_wp2_with fail
  go_ret
  exact ⟨rfl, hb0.trans (hb1.mono hb0.size)⟩
set_option maxRecDepth 100000 in
set_option maxHeartbeats 4000000 in
theorem bitsOfM_any (n : Nat) (w : World) :
    Calls Tryz.prog 55 #[.int .i64 (n : Nat)] w fun e w' => e = .returned (tv 5 (n : Nat) (.slice none 0 0)) ∧ Below w.heap.size w w' := by
  go_enter Tryz.func55, Tryz.ntmps55
  go_wp2_with fail
  exact ty_new' rfl w w _ _ _ _ _ rfl (Below.refl _ _) fun Z hZ => ⟨rfl, hZ⟩
theorem put_bits {bs : List Bool} (h1 : 1 ≤ bs.length) (h2 : bs.length ≤ 512) : M.putT (.mk 5 (bs.length : Nat) []) (.mk 0 bs [] 0) = (M.packB bs, 0) := by
  have hc : M.chkT 0 (.mk 5 (bs.length : Nat) []) = 0 := by
    refine M.chkT_ok.2 ⟨by omega, ?_, by omega, rfl⟩
    unfold M.formT
    simp
    omega
  have hf : M.fitsV (.mk 5 (bs.length : Nat) []) (.mk 0 bs [] 0) = 0 := by
    rw [M.fitsV_in hc, M.fitV_eq, if_neg (by simp), M.ofV_5]
    simp [M.fitVs]
  unfold M.putT
  rw [if_neg (by simp [hf]), M.putV5, if_neg (by rw [M.pack_length]; omega)]
set_option maxRecDepth 100000 in
set_option maxHeartbeats 4000000 in
theorem putBitsM_any (bs : List Bool) (ab : Option Addr) (cb : Nat) (w : World) (hB : LayB w w.heap.size bs (.slice ab bs.length cb)) (hl : bs.length ≤ 512) :
    Calls Tryz.prog 54 #[.slice ab bs.length cb] w fun e w' => e = .returned (.string ⟨(M.packB bs).toArray⟩) ∧ Below w.heap.size w w' := by
  by_cases h0 : bs.length = 0
  · have hn : (bs.length : Int) = 0 := by omega
    obtain rfl := List.eq_nil_of_length_eq_zero h0
    go_enter Tryz.func54, Tryz.ntmps54
    go_wp2_with fail
    go_ret
    exact ⟨rfl, Below.refl _ _⟩
  · have HO := Lib.hid (fun W => bitsOfM_any bs.length W)
    have HP := Lib.hid (fun W (h : Below w.heap.size w W) => mput_any 5 (bs.length : Nat) [] none 0 0 bs [] 0 ab cb none 0 W (.nil_ (by decide)) ⟨by unfold M.In; omega, (hB.from_ h).mono h.size, .nil_ (by decide)⟩ (by simp [M.cntT, M.cntTs]) (by simp [M.cntV, M.cntVs]; omega))
    rw [put_bits (by omega) hl] at HP
    simp only [vv_zero] at HP
    generalize M.packB bs = r at *
    obtain ⟨m, hm⟩ : ∃ m, bs.length = m := ⟨_, rfl⟩
    rw [hm] at h0 HO HP ⊢
    have hn : ¬ (m : Int) = 0 := by omega
    clear hB hl hm h0
    go_enter Tryz.func54, Tryz.ntmps54
    go_wp2_with fail
    refine (HO.out _).mono ?_
    rintro e w1 ⟨rfl, hb1⟩
    go_wp2_with fail
    refine (HP.out _ hb1).mono ?_
    rintro e w2 ⟨rfl, hb2⟩
    go_wp2_with fail
    go_ret
    exact ⟨rfl, hb1.trans (hb2.mono hb1.size)⟩
set_option maxRecDepth 100000 in
set_option maxHeartbeats 4000000 in
theorem isPlain_any (k n : Int) (ts : List M.Ty) (v : Value) (w : World) :
    Calls Tryz.prog 50 #[tv k n v] w fun e w' => e = .returned (.bool (M.isPl (.mk k n ts))) ∧ Below w.heap.size w w' := by
  have hb0 : Below w.heap.size w (w.alloc (.cells #[.int .i64 k, .int .i64 n, v] 32)) := (Below.refl _ _).alloc (Nat.le_refl _) _
  have e : M.isPl (.mk k n ts) = (k == 1 || k == 2) := rfl
  rw [e]
  by_cases h1 : k = 1
  · subst h1
    go_enter Tryz.func50, Tryz.ntmps50
    go_wp2_with fail
    go_ret
    exact ⟨rfl, hb0⟩
  · go_enter Tryz.func50, Tryz.ntmps50
    go_wp2_with fail
    go_ret
    refine ⟨?_, hb0⟩
    simp
end Go.Proofs.YtaajkbclojmbeaaGreatDoor
namespace Go.Proofs.YtaajkbclojmbeaaGreatDoor
open Go Go.RowKit Go.Shelf Go.Lib
attribute [local go_sem] Oper.semAt_some

theorem putT_whole {k n : Int} {ts : List M.Ty} {v : M.Va} (hk : k = 1 ∨ k = 2 ∨ k = 5) (hc : M.chkT 0 (.mk k n ts) = 0) (hf : M.fitV (.mk k n ts) v = 0) : M.putT (.mk k n ts) v = (M.putV (.mk k n ts) v, 0) := by
  have hl := M.put_whole hk (M.chkT_ok.1 hc).2.1 hf
  unfold M.putT
  rw [M.fitsV_in hc, if_neg (by simp [hf]), if_neg (by omega)]
theorem size_whole {k n : Int} {ts : List M.Ty} (hk : k = 1 ∨ k = 2 ∨ k = 5) (hc : M.chkT 0 (.mk k n ts) = 0) : M.sizeT (.mk k n ts) = M.szT (.mk k n ts) ∧ M.szT (.mk k n ts) ≤ 64 := by
  have hform := (M.chkT_ok.1 hc).2.1
  have hts : ts = [] := by
    unfold M.formT at hform
    rcases hk with rfl | rfl | rfl <;> simp at hform <;> first | exact hform.1 | exact hform.1.1
  subst hts
  have hf : M.fixedT (.mk k n []) = true := by rw [M.fixedT_parts hc (by omega)]; rfl
  refine ⟨M.sizeT_fix hf, ?_⟩
  unfold M.formT at hform
  rcases hk with rfl | rfl | rfl
  · simp at hform
    rw [M.szT1]; omega
  · rw [M.szT2]; omega
  · simp at hform
    rw [M.szT5]; omega
set_option maxRecDepth 100000 in
set_option maxHeartbeats 8000000 in
theorem whole_any (k n : Int) (ts : List M.Ty) (at_ : Option Addr) (ct : Nat) (N : Nat) (bs : List Bool) (us : List M.Va) (p : Int) (ab : Option Addr) (cb : Nat) (au : Option Addr) (cu : Nat) (w : World) (hT : LayT w w.heap.size ts (.slice at_ ts.length ct)) (hV : Vl w w.heap.size N bs us ab cb au cu) (hk : k = 1 ∨ k = 2 ∨ k = 5) (hc : M.chkT 0 (.mk k n ts) = 0) (hf : M.fitV (.mk k n ts) (.mk N bs us p) = 0) (h1 : M.cntT (.mk k n ts) ≤ 1000) (h2 : M.cntV (.mk N bs us p) ≤ 6000) (hTab : Tab w) :
    Calls Tryz.prog 45 #[tv k n (.slice at_ ts.length ct), vv N (.slice ab bs.length cb) (.slice au us.length cu) p] w fun e w' => e = .returned (.string ⟨(M.rootV (.mk k n ts) (.mk N bs us p)).toArray⟩) ∧ Below w.heap.size w w' := by
  obtain ⟨w0, hw0⟩ : ∃ w0, (w.alloc (.cells #[.int .i64 k, .int .i64 n, .slice at_ ts.length ct] 32)).alloc (.cells #[.int .u64 (M.pt 0 N), .int .u64 (M.pt 1 N), .int .u64 (M.pt 2 N), .int .u64 (M.pt 3 N), .slice ab bs.length cb, .slice au us.length cu, .int .i64 p] 38) = w0 := ⟨_, rfl⟩
  have hb0 : Below w.heap.size w w0 := by rw [← hw0]; exact two_boxes _ _ _
  have hz0 : w0.heap.size = w.heap.size + 2 := by rw [← hw0]; simp
  have hB0 : BoxT w0 w.heap.size k n (.slice at_ ts.length ct) := by rw [← hw0]; exact ⟨by simp [go_sem], by simp [go_sem], by simp [go_sem]⟩
  have hA0 : Cells7 w0 (w.heap.size + 1) 0 N (.slice ab bs.length cb) (.slice au us.length cu) p := by
    rw [← hw0]
    have := Cells7.new (w.alloc (.cells #[.int .i64 k, .int .i64 n, .slice at_ ts.length ct] 32)) N (.slice ab bs.length cb) (.slice au us.length cu) p 38
    rwa [World.size_alloc] at this
  have hlt0 : w.heap.size < w0.heap.size := by omega
  have hlt1 : w.heap.size + 1 < w0.heap.size := by omega
  have HW := Lib.hid hw0
  have HZ0 := Lib.hid hz0
  have mixed : Tryz.prog.follows .mixedOrders = true := by kernel_rfl
  clear hw0 hz0
  have HP := Lib.hid (fun X (h : Below w0.heap.size w0 X) => mput_any k n ts at_ ct N bs us p ab cb au cu X ((hT.from_ (hb0.trans (h.mono hb0.size))).mono (hb0.trans (h.mono hb0.size)).size) ((hV.from_ (hb0.trans (h.mono hb0.size))).mono (hb0.trans (h.mono hb0.size)).size) h1 h2)
  have HZ := Lib.hid (fun X (h : Below w0.heap.size w0 X) => shape_size k n ts at_ ct X ((hT.from_ (hb0.trans (h.mono hb0.size))).mono (hb0.trans (h.mono hb0.size)).size) h1)
  have hrw := M.root_whole hk (M.chkT_ok.1 hc).2.1 hf hV.1
  have hpl := M.put_whole hk (M.chkT_ok.1 hc).2.1 hf
  obtain ⟨hsz, hs64⟩ := size_whole hk hc
  rw [putT_whole hk hc hf] at HP
  rw [hsz] at HZ
  have HK := Lib.hid (fun X (h : Below w0.heap.size w0 X) => packed_any (M.putV (.mk k n ts) (.mk N bs us p)) (M.szT (.mk k n ts)) X (by omega) (by omega) (hTab.from (hb0.trans (h.mono hb0.size))))
  rw [hrw] at HK
  generalize M.rootV (.mk k n ts) (.mk N bs us p) = R at *
  generalize M.putV (.mk k n ts) (.mk N bs us p) = s at *
  generalize M.szT (.mk k n ts) = z at *
  simp only at HP
  clear hrw hpl hsz hs64 hf hk
  go_enter Tryz.func45, Tryz.ntmps45
  go_wp2_with fail
  rw [HW.out]
  refine wp_region_held (S := fun Y => Below w0.heap.size w0 Y) mixed ?_
  have hS0 : Below w0.heap.size w0 { w0 with drawn := w0.drawn + 1 } := Below.drew (Below.refl _ _)
  rw [show Array.replicate (Array.size _) false = #[false, false, false, false, false, false, false] from rfl, show Array.size (α := Oper) _ = 7 from rfl]
  refine wpAnyH_take (i := 0) (v := tv k n (.slice at_ ts.length ct)) rfl (by kernel_rfl) (by kernel_rfl) (by kernel_rfl) (fun _ _ _ h => h) (Or.inl ⟨by rfl, ?_⟩) hS0 ?_
  · intro Y hY
    have b0 := (hY.cell (p := ⟨w.heap.size, 0, none⟩) hlt0).trans hB0.c0; have b1 := (hY.cell (p := ⟨w.heap.size, 1, none⟩) hlt0).trans hB0.c1; have b2 := (hY.cell (p := ⟨w.heap.size, 2, none⟩) hlt0).trans hB0.c2
    go_simp
  simp only [Act.put, List.getElem_toArray, List.getElem_cons_zero, List.setIfInBounds_toArray, List.set_cons_zero, List.set_cons_succ]
  refine wpAnyH_take (i := 1) (v := vv N (.slice ab bs.length cb) (.slice au us.length cu) p) rfl (by kernel_rfl) (by kernel_rfl) (by kernel_rfl) (fun _ _ _ h => h) (Or.inl ⟨by rfl, ?_⟩) hS0 ?_
  · intro Y hY
    have hAY := hA0.from_ hY hlt1; have a0 := hAY.c0; have a1 := hAY.c1; have a2 := hAY.c2; have a3 := hAY.c3; have a4 := hAY.c4; have a5 := hAY.c5; have a6 := hAY.c6; simp only [Nat.zero_add] at a1 a2 a3 a4 a5 a6
    go_simp
  simp only [Act.put, List.getElem_toArray, List.getElem_cons_succ, List.getElem_cons_zero, List.setIfInBounds_toArray, List.set_cons_zero, List.set_cons_succ]
  refine wpAnyH_take (i := 3) (v := tv k n (.slice at_ ts.length ct)) rfl (by kernel_rfl) (by kernel_rfl) (by kernel_rfl) (fun _ _ _ h => h) (Or.inl ⟨by rfl, ?_⟩) hS0 ?_
  · intro Y hY
    have b0 := (hY.cell (p := ⟨w.heap.size, 0, none⟩) hlt0).trans hB0.c0; have b1 := (hY.cell (p := ⟨w.heap.size, 1, none⟩) hlt0).trans hB0.c1; have b2 := (hY.cell (p := ⟨w.heap.size, 2, none⟩) hlt0).trans hB0.c2
    go_simp
  simp only [Act.put, List.getElem_toArray, List.getElem_cons_succ, List.getElem_cons_zero, List.setIfInBounds_toArray, List.set_cons_zero, List.set_cons_succ]
  refine wpAnyH_ready (rs := [2]) (by kernel_rfl) (by simp) ?_
  refine AllReadyH.cons rfl (fun K hK => ?_) AllReadyH.nil
  go_simp
  refine (HP.out _ hS0).mono ?_
  rintro e w1 ⟨rfl, hb1⟩
  have hS1 : Below w0.heap.size w0 w1 := hS0.trans (Below.mono hb1 hS0.size)
  try go_wp2_with fail
  refine hK.out _ _ hS1 (fun _ => ?_)
  clear hK K
  simp only [List.setIfInBounds_toArray, List.set_cons_zero, List.set_cons_succ]
  refine wpAnyH_ready (rs := [4]) (by kernel_rfl) (by simp) ?_
  refine AllReadyH.cons rfl (fun K hK => ?_) AllReadyH.nil
  go_simp
  refine (HZ.out _ hS1).mono ?_
  rintro e w2 ⟨rfl, hb2⟩
  have hS2 : Below w0.heap.size w0 w2 := hS1.trans (Below.mono hb2 hS1.size)
  try go_wp2_with fail
  refine hK.out _ _ hS2 (fun _ => ?_)
  clear hK K
  simp only [List.setIfInBounds_toArray, List.set_cons_zero, List.set_cons_succ]
  refine wpAnyH_ready (rs := [5]) (by kernel_rfl) (by simp) ?_
  refine AllReadyH.cons rfl (fun K hK => ?_) AllReadyH.nil
  go_simp
  refine (HK.out _ hS2).mono ?_
  rintro e w3 ⟨rfl, hb3⟩
  have hS3 : Below w0.heap.size w0 w3 := hS2.trans (Below.mono hb3 hS2.size)
  try go_wp2_with fail
  refine hK.out _ _ hS3 (fun _ => ?_)
  clear hK K
  simp only [List.setIfInBounds_toArray, List.set_cons_zero, List.set_cons_succ]
  refine wpAnyH_ready (rs := [6]) (by kernel_rfl) (by simp) ?_
  refine AllReadyH.cons rfl (fun K hK => ?_) AllReadyH.nil
  go_simp
  refine hK.out _ _ hS3 (fun _ => ?_)
  clear hK K
  simp only [List.setIfInBounds_toArray, List.set_cons_zero, List.set_cons_succ]
  refine wpAnyH_done (by kernel_rfl) ?_ _
  go_wp2_with fail
  go_ret
  exact ⟨rfl, hb0.trans (Below.mono hS3 hb0.size)⟩
end Go.Proofs.YtaajkbclojmbeaaGreatDoor
namespace Go.Proofs.YtaajkbclojmbeaaGreatDoor
open Go Go.RowKit Go.Shelf Go.Lib
attribute [local go_sem] Oper.semAt_some

def RP (w : World) (s : List UInt8) (e : Ending) (w' : World) : Prop := e = .returned (.string ⟨s.toArray⟩) ∧ Below w.heap.size w w'
/-- What the root of a value must be, for values of such depth. -/
def RootC (z : Nat) : Prop := ∀ (k n : Int) (ts : List M.Ty) (at_ : Option Addr) (ct : Nat) (N : Nat) (bs : List Bool) (us : List M.Va) (p : Int) (ab : Option Addr) (cb : Nat) (au : Option Addr) (cu : Nat) (w : World) (mb kb ib : Nat), SizeOf.sizeOf us ≤ z → LayT w w.heap.size ts (.slice at_ ts.length ct) → Vl w w.heap.size N bs us ab cb au cu →
  M.chkT 0 (.mk k n ts) = 0 → M.fitV (.mk k n ts) (.mk N bs us p) = 0 → M.cntT (.mk k n ts) ≤ 1000 → M.cntV (.mk N bs us p) ≤ 6000 → Tbl w w.heap.size mb kb ib → Tab w →
  Calls Tryz.prog 25 #[.map (some mb), tv k n (.slice at_ ts.length ct), vv N (.slice ab bs.length cb) (.slice au us.length cu) p] w (RP w (M.rootV (.mk k n ts) (.mk N bs us p)))
/-- The roots of a row's items. -/
def eachT (ts : List M.Ty) (us : List M.Va) : List (List UInt8) := (List.range us.length).map fun i => M.rootV (M.tyAt ts i) (us[i]?.getD M.noV)
theorem each_length (ts : List M.Ty) (us : List M.Va) : (eachT ts us).length = us.length := by simp [eachT]
theorem each_next {ts : List M.Ty} {us : List M.Va} {j : Nat} {u : M.Va} (h : us[j]? = some u) : (eachT ts us).take (j + 1) = (eachT ts us).take j ++ [M.rootV (M.tyAt ts j) u] := by
  have hj := (List.getElem?_eq_some_iff.1 h).1
  rw [List.take_add_one]
  congr 1
  unfold eachT
  rw [List.getElem?_map, List.getElem?_range hj]
  simp [h]

set_option maxRecDepth 100000 in
set_option maxHeartbeats 8000000 in
theorem ofEach_any (z : Nat) (ih : Hid (RootC z)) (k n : Int) (ts : List M.Ty) (at_ : Option Addr) (ct : Nat) (us : List M.Va) (au : Option Addr) (cu : Nat) (w : World) (mb kb ib : Nat) (hT : LayT w w.heap.size ts (.slice at_ ts.length ct)) (hV : LayV w w.heap.size us (.slice au us.length cu)) (hs : SizeOf.sizeOf us ≤ z + 1) (hin : Hid (∀ i u, us[i]? = some u → M.chkT 0 (M.tyAt ts i) = 0 ∧ M.fitV (M.tyAt ts i) u = 0)) (hts : us.length ≠ 0 → 1 ≤ ts.length) (hcT : M.cntTs ts ≤ 999) (hcV : M.cntVs us ≤ 5999) (hK : Tbl w w.heap.size mb kb ib) (hTab : Tab w) :
    Calls Tryz.prog 51 #[.map (some mb), tv k n (.slice at_ ts.length ct), .slice au us.length cu] w fun e w' => (∃ v, e = .returned v ∧ OwS w.heap.size (eachT ts us) v w') ∧ Below w.heap.size w w' := by
  have hul := M.length_cntV us
  obtain ⟨w0, hw0⟩ : ∃ w0, w.alloc (.cells #[.int .i64 k, .int .i64 n, .slice at_ ts.length ct] 32) = w0 := ⟨_, rfl⟩
  have hb0 : Below w.heap.size w w0 := by rw [← hw0]; exact (Below.refl _ _).alloc (Nat.le_refl _) _
  have hz0 : w0.heap.size = w.heap.size + 1 := by rw [← hw0]; simp
  have hB0 : BoxT w0 w.heap.size k n (.slice at_ ts.length ct) := by rw [← hw0]; exact BoxT.new _ _ _ _ _
  have hlt0 : w.heap.size < w0.heap.size := by omega
  have HW := Lib.hid hw0
  have HZ0 := Lib.hid hz0
  have mixed : Tryz.prog.follows .mixedOrders = true := by kernel_rfl
  obtain ⟨E, hE⟩ : ∃ E, eachT ts us = E := ⟨_, rfl⟩
  have HEN : Hid (∀ j u, us[j]? = some u → E.take (j + 1) = E.take j ++ [M.rootV (M.tyAt ts j) u]) := fun j u h => by rw [← hE]; exact each_next h
  have HEL : Hid (E.length = us.length) := by show _ = _; rw [← hE]; exact each_length _ _
  rw [hE]
  clear hw0 hz0 hE
  go_enter Tryz.func51, Tryz.ntmps51
  go_wp2_with fail
  rw [HW.out]
  go_loopw [7, 12] (fun l i wr => ∃ j : Nat, j ≤ us.length ∧ i = .int .i64 (j : Nat) ∧ OwS w0.heap.size (E.take j) l wr ∧ Below w0.heap.size w0 wr) (fun _ i _ => us.length - (RowKit.intOf i).toNat)
  case atStart => exact ⟨0, Nat.zero_le _, rfl, by simpa using OwS.nil _ _, Below.refl _ _⟩
  case round =>
    obtain ⟨j, hj, rfl, hO, hbr⟩ := hrel
    obtain ⟨la, lc, hlv⟩ := hO.len
    by_cases hlt : j < us.length
    · obtain ⟨b, o, N, bs, vs, q, ab, cb, av, cv, rfl, hbn, hxk, h7, hVl⟩ := hV.at_ hlt
      have hlt1 := hts (by omega)
      have hjl : j < 6000 := by omega
      obtain ⟨mi, hmi⟩ : ∃ mi, min j (ts.length - 1) = mi := ⟨_, rfl⟩
      have hmil : mi < ts.length := by omega
      obtain ⟨c, x, k', n', us', ua, uc, rfl, hcn, hxt, e0, e1, e2, hLt⟩ := hT.at_ hmil
      have hty : M.tyAt ts j = .mk k' n' us' := by unfold M.tyAt; rw [hmi, hxt]; rfl
      obtain ⟨hchx, hfx⟩ := hin.out j _ hxk
      rw [hty] at hchx hfx
      have hEn := HEN.out j _ hxk
      rw [hty] at hEn
      have hcx := M.cntT_part (List.mem_of_getElem? hxt)
      have hcv := M.cntV_part (List.mem_of_getElem? hxk)
      have hsx := size_va hxk
      rw [M.Va.mk.sizeOf_spec] at hsx
      have hbwr : Below w.heap.size w wr := hb0.trans (Below.mono hbr hb0.size)
      obtain ⟨w1, hw1⟩ : ∃ w1, wr.alloc (.cells #[.int .u64 (M.pt 0 N), .int .u64 (M.pt 1 N), .int .u64 (M.pt 2 N), .int .u64 (M.pt 3 N), .slice ab bs.length cb, .slice av vs.length cv, .int .i64 q] 38) = w1 := ⟨_, rfl⟩
      have hb1 : Below wr.heap.size wr w1 := by rw [← hw1]; exact (Below.refl _ _).alloc (Nat.le_refl _) _
      have hz1 : w1.heap.size = wr.heap.size + 1 := by rw [← hw1]; simp
      have hA1 : Cells7 w1 wr.heap.size 0 N (.slice ab bs.length cb) (.slice av vs.length cv) q := by rw [← hw1]; exact Cells7.new _ _ _ _ _ _
      have hbr1 : Below w0.heap.size w0 w1 := hbr.trans (hb1.mono hbr.size)
      have HC : Hid (∀ X, Below w0.heap.size w0 X → Calls Tryz.prog 25 #[.map (some mb), tv k' n' (.slice ua us'.length uc), vv N (.slice ab bs.length cb) (.slice av vs.length cv) q] X (RP X (M.rootV (.mk k' n' us') (.mk N bs vs q)))) := fun X h => by
        have hX : Below w.heap.size w X := hb0.trans (Below.mono h hb0.size)
        exact ih.out k' n' us' ua uc N bs vs q ab cb av cv X mb kb ib (by omega) ((hLt.from_ hX).mono hX.size) ((hVl.from_ hX).mono hX.size) hchx hfx (by omega) (by omega) ((hK.from_ hX).mono hX.size) (hTab.from hX)
      generalize M.rootV (.mk k' n' us') (.mk N bs vs q) = u at *
      have g0 := (hb0.cell (p := ⟨c, x + mi * 3, none⟩) hcn).trans e0
      have g1 := (hb0.cell (p := ⟨c, x + mi * 3 + 1, none⟩) hcn).trans e1
      have g2 := (hb0.cell (p := ⟨c, x + mi * 3 + 2, none⟩) hcn).trans e2
      have hcn0 : c < w0.heap.size := by omega
      have h7r := h7.from_ hbwr hbn
      have a0 := h7r.c0
      have a1 := h7r.c1
      have a2 := h7r.c2
      have a3 := h7r.c3
      have a4 := h7r.c4
      have a5 := h7r.c5
      have a6 := h7r.c6
      have hjli : (j : Int) < us.length := by omega
      obtain ⟨l1, hl1⟩ : ∃ l1, ts.length - 1 = l1 := ⟨_, rfl⟩
      have hl1i : (ts.length : Int) - 1 = (l1 : Int) := by omega
      have hmin : min (j : Int) (l1 : Int) = (mi : Int) := by omega
      have HEN1 := Lib.hid hEn
      have HW1 := Lib.hid hw1
      have HO := Lib.hid hO
      have HZ1 := Lib.hid hz1
      have hbx0 : wr.heap.size < w1.heap.size := by omega
      have hts9 : ts.length ≤ 1000 := by have := M.length_cntT ts; omega
      have hEl : (E.take j).length = j := by rw [List.length_take, HEL.out]; omega
      rw [hEl] at hlv
      subst hlv
      obtain ⟨i1, hi1, hiz, his, hib⟩ := info_parts Tryz.ofTxt
      clear hw1 hz1 hEn hxk hxt hLt hVl h7 h7r hcx hcv hsx hchx hfx hty hmi hl1 e0 e1 e2 hin
      go_wp2_with fail
      rw [HW1.out]
      clear a0 a1 a2 a3 a4 a5 a6
      obtain ⟨SS, hSS⟩ : ∃ SS : World → Prop, SS = fun Y => Below w0.heap.size w0 Y ∧ Cells7 Y wr.heap.size 0 N (.slice ab bs.length cb) (.slice av vs.length cv) q := ⟨_, rfl⟩
      refine wp_region_held (S := fun Y => Below w0.heap.size w0 Y ∧ Cells7 Y wr.heap.size 0 N (.slice ab bs.length cb) (.slice av vs.length cv) q) mixed ?_
      have hS0 : Below w0.heap.size w0 w1.drew ∧ Cells7 w1.drew wr.heap.size 0 N (.slice ab bs.length cb) (.slice av vs.length cv) q := ⟨Below.drew hbr1, ⟨hA1.c0, hA1.c1, hA1.c2, hA1.c3, hA1.c4, hA1.c5, hA1.c6⟩⟩
      clear hSS SS
      rw [show Array.replicate (Array.size _) false = #[false, false, false, false, false, false, false, false, false, false, false, false, false, false, false, false, false] from rfl, show Array.size (α := Oper) _ = 17 from rfl]
      refine wpAnyH_take (i := 0) (v := .slice la j lc) rfl (by kernel_rfl) (by kernel_rfl) (by kernel_rfl) (fun _ _ _ h => h) (Or.inl ⟨by rfl, ?_⟩) hS0 ?_
      · intro Y hY
        skip
        go_simp
      simp only [Act.put, List.getElem_toArray, List.getElem_cons_zero, List.setIfInBounds_toArray, List.set_cons_zero, List.set_cons_succ]
      refine wpAnyH_take (i := 1) (v := .map (some mb)) rfl (by kernel_rfl) (by kernel_rfl) (by kernel_rfl) (fun _ _ _ h => h) (Or.inl ⟨by rfl, ?_⟩) hS0 ?_
      · intro Y hY
        skip
        go_simp
      simp only [Act.put, List.getElem_toArray, List.getElem_cons_succ, List.getElem_cons_zero, List.setIfInBounds_toArray, List.set_cons_zero, List.set_cons_succ]
      refine wpAnyH_take (i := 2) (v := .pointer (some ⟨w.heap.size, 2, none⟩)) rfl (by kernel_rfl) (by kernel_rfl) (by kernel_rfl) (fun _ _ _ h => h) (Or.inl ⟨by rfl, ?_⟩) hS0 ?_
      · intro Y hY
        skip
        go_simp
      simp only [Act.put, List.getElem_toArray, List.getElem_cons_succ, List.getElem_cons_zero, List.setIfInBounds_toArray, List.set_cons_zero, List.set_cons_succ]
      refine wpAnyH_take (i := 3) (v := .slice (some ⟨c, x, none⟩) ts.length ct) rfl (by kernel_rfl) (by kernel_rfl) (by kernel_rfl) (fun _ _ _ h => h) (Or.inl ⟨by rfl, ?_⟩) hS0 ?_
      · intro Y hY
        have b2 := (hY.1.cell (p := ⟨w.heap.size, 2, none⟩) hlt0).trans hB0.c2
        go_simp
      simp only [Act.put, List.getElem_toArray, List.getElem_cons_succ, List.getElem_cons_zero, List.setIfInBounds_toArray, List.set_cons_zero, List.set_cons_succ]
      refine wpAnyH_take (i := 4) (v := .int .i64 (j : Nat)) rfl (by kernel_rfl) (by kernel_rfl) (by kernel_rfl) (fun _ _ _ h => h) (Or.inl ⟨by rfl, ?_⟩) hS0 ?_
      · intro Y hY
        skip
        go_simp
      simp only [Act.put, List.getElem_toArray, List.getElem_cons_succ, List.getElem_cons_zero, List.setIfInBounds_toArray, List.set_cons_zero, List.set_cons_succ]
      refine wpAnyH_take (i := 5) (v := .pointer (some ⟨w.heap.size, 2, none⟩)) rfl (by kernel_rfl) (by kernel_rfl) (by kernel_rfl) (fun _ _ _ h => h) (Or.inl ⟨by rfl, ?_⟩) hS0 ?_
      · intro Y hY
        skip
        go_simp
      simp only [Act.put, List.getElem_toArray, List.getElem_cons_succ, List.getElem_cons_zero, List.setIfInBounds_toArray, List.set_cons_zero, List.set_cons_succ]
      refine wpAnyH_take (i := 6) (v := .slice (some ⟨c, x, none⟩) ts.length ct) rfl (by kernel_rfl) (by kernel_rfl) (by kernel_rfl) (fun _ _ _ h => h) (Or.inl ⟨by rfl, ?_⟩) hS0 ?_
      · intro Y hY
        have b2 := (hY.1.cell (p := ⟨w.heap.size, 2, none⟩) hlt0).trans hB0.c2
        go_simp
      simp only [Act.put, List.getElem_toArray, List.getElem_cons_succ, List.getElem_cons_zero, List.setIfInBounds_toArray, List.set_cons_zero, List.set_cons_succ]
      refine wpAnyH_take (i := 7) (v := .int .i64 (ts.length : Nat)) rfl (by kernel_rfl) (by kernel_rfl) (by kernel_rfl) (fun _ _ _ h => h) (Or.inl ⟨by rfl, ?_⟩) hS0 ?_
      · intro Y hY
        skip
        go_simp
      simp only [Act.put, List.getElem_toArray, List.getElem_cons_succ, List.getElem_cons_zero, List.setIfInBounds_toArray, List.set_cons_zero, List.set_cons_succ]
      refine wpAnyH_take (i := 8) (v := .int .i64 (l1 : Nat)) rfl (by kernel_rfl) (by kernel_rfl) (by kernel_rfl) (fun _ _ _ h => h) (Or.inl ⟨by rfl, ?_⟩) hS0 ?_
      · intro Y hY
        skip
        go_simp
        rw [IntKind.wrap_i64]
        omega
      simp only [Act.put, List.getElem_toArray, List.getElem_cons_succ, List.getElem_cons_zero, List.setIfInBounds_toArray, List.set_cons_zero, List.set_cons_succ]
      refine wpAnyH_take (i := 9) (v := .int .i64 (mi : Nat)) rfl (by kernel_rfl) (by kernel_rfl) (by kernel_rfl) (fun _ _ _ h => h) (Or.inl ⟨by rfl, ?_⟩) hS0 ?_
      · intro Y hY
        skip
        go_simp
      simp only [Act.put, List.getElem_toArray, List.getElem_cons_succ, List.getElem_cons_zero, List.setIfInBounds_toArray, List.set_cons_zero, List.set_cons_succ]
      refine wpAnyH_take (i := 10) (v := .pointer (some ⟨c, x + mi * 3, none⟩)) rfl (by kernel_rfl) (by kernel_rfl) (by kernel_rfl) (fun _ _ _ h => h) (Or.inl ⟨by rfl, ?_⟩) hS0 ?_
      · intro Y hY
        skip
        go_simp
      simp only [Act.put, List.getElem_toArray, List.getElem_cons_succ, List.getElem_cons_zero, List.setIfInBounds_toArray, List.set_cons_zero, List.set_cons_succ]
      refine wpAnyH_take (i := 11) (v := tv k' n' (.slice ua us'.length uc)) rfl (by kernel_rfl) (by kernel_rfl) (by kernel_rfl) (fun _ _ _ h => h) (Or.inl ⟨by rfl, ?_⟩) hS0 ?_
      · intro Y hY
        have f0 := (hY.1.cell (p := ⟨c, x + mi * 3, none⟩) hcn0).trans g0; have f1 := (hY.1.cell (p := ⟨c, x + mi * 3 + 1, none⟩) hcn0).trans g1; have f2 := (hY.1.cell (p := ⟨c, x + mi * 3 + 2, none⟩) hcn0).trans g2
        go_simp
      simp only [Act.put, List.getElem_toArray, List.getElem_cons_succ, List.getElem_cons_zero, List.setIfInBounds_toArray, List.set_cons_zero, List.set_cons_succ]
      refine wpAnyH_take (i := 12) (v := vv N (.slice ab bs.length cb) (.slice av vs.length cv) q) rfl (by kernel_rfl) (by kernel_rfl) (by kernel_rfl) (fun _ _ _ h => h) (Or.inl ⟨by rfl, ?_⟩) hS0 ?_
      · intro Y hY
        have c0 := hY.2.c0; have c1 := hY.2.c1; have c2 := hY.2.c2; have c3 := hY.2.c3; have c4 := hY.2.c4; have c5 := hY.2.c5; have c6 := hY.2.c6; simp only [Nat.zero_add] at c1 c2 c3 c4 c5 c6
        go_simp
      simp only [Act.put, List.getElem_toArray, List.getElem_cons_succ, List.getElem_cons_zero, List.setIfInBounds_toArray, List.set_cons_zero, List.set_cons_succ]
      refine wpAnyH_ready (rs := [13]) (by kernel_rfl) (by simp) ?_
      refine AllReadyH.cons rfl (fun K hK => ?_) AllReadyH.nil
      go_simp
      refine (HC.out _ hS0.1).mono ?_
      rintro e w5 ⟨rfl, hb5⟩
      have hbS5 : Below w0.heap.size w0 w5 := hS0.1.trans (Below.mono hb5 hS0.1.size)
      have hA5 : Cells7 w5 wr.heap.size 0 N (.slice ab bs.length cb) (.slice av vs.length cv) q := hS0.2.from_ hb5 (by show wr.heap.size < w1.heap.size; exact hbx0)
      try go_wp2_with fail
      refine hK.out _ _ ⟨hbS5, hA5⟩ (fun _ => ?_)
      clear hK K
      simp only [List.setIfInBounds_toArray, List.set_cons_zero, List.set_cons_succ]
      refine wpAnyH_ready (rs := [14]) (by kernel_rfl) (by simp) ?_
      refine AllReadyH.cons rfl (fun K hK => ?_) AllReadyH.nil
      rw [if_pos (by rfl)]
      refine wp_build_one 22 9 (.tmp 30) (.string ⟨u.toArray⟩) (.string ⟨#[]⟩) i1 rfl rfl rfl Tryz.underlying22 hi1 hiz his rfl ?_
      obtain ⟨w6, hw6⟩ : ∃ w6, w5.alloc (.cells #[.string ⟨u.toArray⟩] 9) = w6 := ⟨_, rfl⟩
      have hb56 : Below w5.heap.size w5 w6 := by rw [← hw6]; exact (Below.refl _ _).alloc (Nat.le_refl _) _
      have hc6 : w6.cell? ⟨w5.heap.size, 0, none⟩ = some (.string ⟨u.toArray⟩) := by rw [← hw6]; simp [go_sem]
      have hbS6 : Below w0.heap.size w0 w6 := hbS5.trans (hb56.mono hbS5.size)
      have hz5 : w1.heap.size ≤ w5.heap.size := hb5.size
      have hz6 : w5.heap.size ≤ w6.heap.size := hb56.size
      have hA6 := hA5.from_ hb56 (by omega)
      have hd1 : Below w1.heap.size w1 w1.drew := Below.drew (Below.refl _ _)
      have hbr6 : Below wr.heap.size wr w6 := hb1.trans ((hd1.trans (Below.trans hb5 (hb56.mono hz5))).mono hb1.size)
      have hO6 := HO.out.from_ hbr6
      rw [hw6]
      clear hw6
      refine hK.out _ _ ⟨hbS6, hA6⟩ (fun _ => ?_)
      clear hK K
      simp only [List.setIfInBounds_toArray, List.set_cons_zero, List.set_cons_succ]
      refine wpAnyH_ready (rs := [15]) (by kernel_rfl) (by simp) ?_
      refine AllReadyH.cons rfl (fun K hK => ?_) AllReadyH.nil
      rw [if_pos (by rfl)]
      refine wp_append_txt w6 _ _ rfl w0.heap.size (E.take j) u w5.heap.size (.slice la j lc) rfl rfl hO6 hc6 (by omega) hbS6.size ?_
      intro v' w7 hA7
      have hrow : ∀ g, (Value.slice la j lc).ownBlock = some g → w0.heap.size ≤ g ∧ g < wr.heap.size := HO.out.lt
      have hbS7 : Below w0.heap.size w0 w7 := hbS6.grown hA7.grown hbS6.size (fun g e => (hrow g e).1)
      have hk7 : ∀ (q : Unit), w7.heap[wr.heap.size]? = w6.heap[wr.heap.size]? := fun _ => hA7.grown.block _ (by omega) (fun e => by have := (hrow _ e.symm).2; omega)
      have hA7c : Cells7 w7 wr.heap.size 0 N (.slice ab bs.length cb) (.slice av vs.length cv) q := ⟨(World.cell?_of_block (hk7 ())).trans hA6.c0, (World.cell?_of_block (hk7 ())).trans hA6.c1, (World.cell?_of_block (hk7 ())).trans hA6.c2, (World.cell?_of_block (hk7 ())).trans hA6.c3, (World.cell?_of_block (hk7 ())).trans hA6.c4, (World.cell?_of_block (hk7 ())).trans hA6.c5, (World.cell?_of_block (hk7 ())).trans hA6.c6⟩
      refine hK.out _ _ ⟨hbS7, hA7c⟩ (fun _ => ?_)
      clear hK K
      simp only [List.setIfInBounds_toArray, List.set_cons_zero, List.set_cons_succ]
      refine wpAnyH_ready (rs := [16]) (by kernel_rfl) (by simp) ?_
      refine AllReadyH.cons rfl (fun K hK => ?_) AllReadyH.nil
      go_simp
      refine hK.out _ _ ⟨hbS7, hA7c⟩ (fun _ => ?_)
      clear hK K
      simp only [List.setIfInBounds_toArray, List.set_cons_zero, List.set_cons_succ]
      refine wpAnyH_done (by kernel_rfl) ?_ _
      have hAO := hA7.own
      rw [← HEN1.out] at hAO
      have HAO := Lib.hid hAO
      have HS7 := Lib.hid hbS7
      clear hA7 hAO hA7c hbS7 hO6 hA6 hA5 hS0
      go_wp2_with fail
      exact ⟨⟨j + 1, by omega, by simp, HAO.out, HS7.out⟩, by simp [RowKit.intOf]; omega⟩
    · obtain rfl : j = us.length := by omega
      rw [List.take_of_length_le (by rw [HEL.out]; exact Nat.le_refl _)] at hO
      have HO := Lib.hid (hO.mono hb0.size)
      have HBR := Lib.hid (hb0.trans (Below.mono hbr hb0.size))
      clear hO hbr hin
      go_wp2_with fail
      go_ret
      exact ⟨⟨_, rfl, HO.out⟩, HBR.out⟩
end Go.Proofs.YtaajkbclojmbeaaGreatDoor
namespace Go.Proofs.YtaajkbclojmbeaaGreatDoor
open Go Go.RowKit Go.Shelf Go.Lib
attribute [local go_sem] Oper.semAt_some

theorem each_eq {k : Int} {ts : List M.Ty} {p : Int} {us : List M.Va} (h : ∀ j, j < us.length → M.inT k ts p j = M.tyAt ts j) : M.rootVs k ts p 0 us = eachT ts us := by
  apply List.ext_getElem?
  intro j
  by_cases hj : j < us.length
  · have hu : us[j]? = some us[j] := List.getElem?_eq_getElem hj
    rw [M.rootVs_next k ts p us 0 j _ hu, Nat.zero_add, h j hj]
    unfold eachT
    rw [List.getElem?_map, List.getElem?_range hj]
    simp [hu]
  · rw [List.getElem?_eq_none (by rw [M.rootVs_length]; omega), List.getElem?_eq_none (by rw [each_length]; omega)]
theorem tyAt_1m (t : M.Ty) (i : Nat) : M.tyAt [t] i = t := by unfold M.tyAt; simp
theorem in_tyAt {k : Int} (hk : k = 3 ∨ k = 4) (t : M.Ty) (p : Int) (j : Nat) : M.inT k [t] p j = M.tyAt [t] j := by
  rw [M.in_34 hk, tyAt_1m]
  rfl
theorem putT_plain {k n : Int} {t : M.Ty} {num : Nat} {bits : List Bool} {items : List M.Va} {pick : Int} (hk : k = 3 ∨ k = 4) (hc : M.chkT 0 (.mk k n [t]) = 0) (hf : M.fitV (.mk k n [t]) (.mk num bits items pick) = 0) (hp : M.isPl t = true) (hl : items.length ≤ 512) :
    M.putT (.mk k n [t]) (.mk num bits items pick) = ((M.putVs k [t] pick 0 items).flatMap (·.2), 0) ∧ ((M.putVs k [t] pick 0 items).flatMap (·.2)).length ≤ 16384 := by
  have hct : M.chkT 0 t = 0 := M.chkT_in hc (by simp)
  obtain ⟨e1, e2⟩ := M.put_plain (n := n) (num := num) (bits := bits) (items := items) (pick := pick) hk hct hp
  obtain ⟨_, h32, _⟩ := M.kind_plain hct hp
  have hlen : ((M.putVs k [t] pick 0 items).flatMap (·.2)).length ≤ 16384 := by
    rw [e2]
    exact Nat.le_trans (Nat.mul_le_mul hl h32) (by decide)
  refine ⟨?_, hlen⟩
  unfold M.putT
  rw [M.fitsV_in hc, if_neg (by simp [hf]), e1, if_neg (by omega)]
theorem many_34 {k n : Int} {t : M.Ty} {num : Nat} {bits : List Bool} {items : List M.Va} {pick : Int} (hk : k = 3 ∨ k = 4) (hc : M.chkT 0 (.mk k n [t]) = 0) (hf : M.fitV (.mk k n [t]) (.mk num bits items pick) = 0) :
    (1 ≤ n ∧ n ≤ 512) ∧ (items.length : Int) ≤ n ∧ M.fitVs k [t] pick 0 items = 0 := by
  obtain ⟨h1, h2, h3⟩ := M.of_fit hf
  have hform := (M.chkT_ok.1 hc).2.1
  rcases hk with rfl | rfl
  · unfold M.formT at hform
    simp at hform
    rw [M.ofV_3] at h2
    simp at h2
    exact ⟨by omega, by omega, h3⟩
  · unfold M.formT at hform
    simp at hform
    exact ⟨by omega, by omega, h3⟩

set_option maxRecDepth 100000 in
set_option maxHeartbeats 8000000 in
theorem items_any (z : Nat) (ih : Hid (RootC z)) (k : Int) (m : Nat) (t : M.Ty) (at_ : Option Addr) (ct : Nat) (N : Nat) (bs : List Bool) (us : List M.Va) (p : Int) (ab : Option Addr) (cb : Nat) (au : Option Addr) (cu : Nat) (w : World) (mb kb ib : Nat) (hT : LayT w w.heap.size [t] (.slice at_ 1 ct)) (hV : Vl w w.heap.size N bs us ab cb au cu) (hs : SizeOf.sizeOf us ≤ z + 1) (hk : k = 3 ∨ k = 4) (hc : M.chkT 0 (.mk k (m : Nat) [t]) = 0) (hf : M.fitV (.mk k (m : Nat) [t]) (.mk N bs us p) = 0) (h1 : M.cntT (.mk k (m : Nat) [t]) ≤ 1000) (h2 : M.cntV (.mk N bs us p) ≤ 6000) (hK : Tbl w w.heap.size mb kb ib) (hTab : Tab w) :
    Calls Tryz.prog 49 #[tv k (m : Nat) (.slice at_ 1 ct), vv N (.slice ab bs.length cb) (.slice au us.length cu) p, .pointer (some ⟨kb, 0, none⟩)] w (RP w (M.rowR k (m : Nat) [t] p us)) := by
  obtain ⟨hm, hlm, hfs⟩ := many_34 hk hc hf
  have hct : M.chkT 0 t = 0 := M.chkT_in hc (by simp)
  have hTX : ∀ X, Below w.heap.size w X → LayT X X.heap.size [t] (.slice at_ 1 ct) := fun X h => (hT.from_ h).mono h.size
  have hVX : ∀ X, Below w.heap.size w X → Vl X X.heap.size N bs us ab cb au cu := fun X h => (hV.from_ h).mono h.size
  have HEA := Lib.hid (M.roots_all k [t] p 0 us hfs)
  have heq := each_eq (p := p) (us := us) (fun j _ => in_tyAt hk t p j)
  rw [heq] at HEA
  have HPP := fun hp => putT_plain (t := t) hk hc hf hp (by omega)
  have HKP := fun hp => M.kind_plain (t := t) hct hp
  have HIN : Hid (∀ i u, us[i]? = some u → M.chkT 0 (M.tyAt [t] i) = 0 ∧ M.fitV (M.tyAt [t] i) u = 0) := fun i u hu => by
    rw [tyAt_1m]
    have := M.fitVs_at k [t] p us 0 i u hfs hu
    rw [M.in_34 hk] at this
    exact ⟨hct, this⟩
  obtain ⟨R, hR⟩ : ∃ R, M.rowR k (m : Nat) [t] p us = R := ⟨_, rfl⟩
  have hR1 : M.isPl t = true → M.packT ((M.putVs k [t] p 0 us).flatMap (·.2)) (m * M.szT t) = R := fun hp => by rw [← hR]; unfold M.rowR; exact (if_pos hp).symm
  have hR2 : M.isPl t = false → M.treeT (eachT [t] us) m = R := fun hp => by rw [← hR, ← heq]; unfold M.rowR; exact (if_neg (by rw [show ([t][0]?.getD default : M.Ty) = t from rfl, hp]; decide)).symm
  rw [hR]
  clear hR heq
  have hcT : M.cntTs [t] ≤ 999 := by rw [M.cntT] at h1; omega
  have hcV : M.cntVs us ≤ 5999 := by rw [M.cntV] at h2; omega
  obtain ⟨c, x, k', n', us', ua, uc, hat, hcn, hxt, e0, e1, e2, hLt⟩ := hT.at_ (i := 0) (by simp)
  subst hat
  obtain rfl : t = .mk k' n' us' := by simpa using hxt
  have hct1 : M.cntT (.mk k' n' us') ≤ 1000 := by rw [M.cntTs] at hcT; omega
  simp only [Nat.zero_mul, Nat.add_zero] at e0 e1 e2
  clear hxt
  obtain ⟨w0, hw0⟩ : ∃ w0, (w.alloc (.cells #[.int .i64 k, .int .i64 (m : Nat), .slice (some ⟨c, x, none⟩) 1 ct] 32)).alloc (.cells #[.int .u64 (M.pt 0 N), .int .u64 (M.pt 1 N), .int .u64 (M.pt 2 N), .int .u64 (M.pt 3 N), .slice ab bs.length cb, .slice au us.length cu, .int .i64 p] 38) = w0 := ⟨_, rfl⟩
  have hb0 : Below w.heap.size w w0 := by rw [← hw0]; exact two_boxes _ _ _
  have hz0 : w0.heap.size = w.heap.size + 2 := by rw [← hw0]; simp
  have hB0 : BoxT w0 w.heap.size k (m : Nat) (.slice (some ⟨c, x, none⟩) 1 ct) := by rw [← hw0]; exact ⟨by simp [go_sem], by simp [go_sem], by simp [go_sem]⟩
  have hA0 : Cells7 w0 (w.heap.size + 1) 0 N (.slice ab bs.length cb) (.slice au us.length cu) p := by
    rw [← hw0]
    have := Cells7.new (w.alloc (.cells #[.int .i64 k, .int .i64 (m : Nat), .slice (some ⟨c, x, none⟩) 1 ct] 32)) N (.slice ab bs.length cb) (.slice au us.length cu) p 38
    rwa [World.size_alloc] at this
  have hlt0 : w.heap.size < w0.heap.size := by omega
  have hlt1 : w.heap.size + 1 < w0.heap.size := by omega
  have HW := Lib.hid hw0
  have HZ0 := Lib.hid hz0
  have mixed : Tryz.prog.follows .mixedOrders = true := by kernel_rfl
  clear hw0 hz0
  have g0 := (hb0.cell (p := ⟨c, x, none⟩) hcn).trans e0
  have g1 := (hb0.cell (p := ⟨c, x + 1, none⟩) hcn).trans e1
  have g2 := (hb0.cell (p := ⟨c, x + 2, none⟩) hcn).trans e2
  have hcn0 : c < w0.heap.size := by omega
  obtain ⟨w1, hw1⟩ : ∃ w1, w0.alloc (.cells #[.int .i64 k', .int .i64 n', .slice ua us'.length uc] 32) = w1 := ⟨_, rfl⟩
  have hb01 : Below w0.heap.size w0 w1 := by rw [← hw1]; exact (Below.refl _ _).alloc (Nat.le_refl _) _
  have hB1 : BoxT w1 w0.heap.size k' n' (.slice ua us'.length uc) := by rw [← hw1]; exact BoxT.new _ _ _ _ _
  have hz1 : w1.heap.size = w0.heap.size + 1 := by rw [← hw1]; simp
  have hlt2 : w0.heap.size < w1.heap.size := by omega
  have hbw1 : Below w.heap.size w w1 := hb0.trans (hb01.mono hb0.size)
  have HKB := Lib.hid (hK.kbx)
  have hkw : kb < w.heap.size := hK.klt
  have HIP := Lib.hid (fun X => isPlain_any k' n' us' (.slice ua us'.length uc) X)
  have HW1 := Lib.hid hw1
  have t0 := hB0.c0
  have t1 := hB0.c1
  have t2 := hB0.c2
  rw [← HW.out] at t0 t1 t2 g0 g1 g2
  clear hw1
  go_enter Tryz.func49, Tryz.ntmps49
  go_wp2_with fail
  rw [HW.out, HW1.out]
  refine (HIP.out _).mono ?_
  rintro e w2 ⟨rfl, hb2⟩
  have hB0w := hB0.from_ hb01 hlt0
  have hA0w := hA0.from_ hb01 hlt1
  have hB1w : BoxT w1 (w.heap.size + 1 + 1) k' n' (.slice ua us'.length uc) := by have := HZ0.out; rw [this] at hB1; exact hB1
  have hltA : w.heap.size < w1.heap.size := by omega
  have hltB : w.heap.size + 1 < w1.heap.size := by omega
  have hltC : w.heap.size + 1 + 1 < w1.heap.size := by have := HZ0.out; omega
  have hkw1 : kb < w1.heap.size := by omega
  have HKBw : Hid (Boxed w1 kb 50 (.map (some mb))) := (hbw1.block _ hkw).trans HKB.out
  have hb12 : Below w1.heap.size w1 w2 := hb2
  have t2w := (hb12.cell (p := ⟨w.heap.size + 1 + 1, 0, none⟩) hltC).trans hB1w.c0
  clear t0 t1 t2 g0 g1 g2
  cases hp : M.isPl (.mk k' n' us') with
  | true =>
    obtain ⟨hpt, hpl⟩ := HPP hp
    obtain ⟨_, hz32, _, hfx⟩ := HKP hp
    have hsz : M.sizeT (.mk k' n' us') = M.szT (.mk k' n' us') := M.sizeT_fix (M.fixedT_ok.2 ⟨hct, hfx⟩)
    have HP := Lib.hid (fun X (h : Below w1.heap.size w1 X) => mput_any k (m : Nat) [.mk k' n' us'] (some ⟨c, x, none⟩) ct N bs us p ab cb au cu X (hTX X (hbw1.trans (h.mono hbw1.size))) (hVX X (hbw1.trans (h.mono hbw1.size))) h1 h2)
    rw [hpt] at HP
    have HZ := Lib.hid (fun X (h : Below w1.heap.size w1 X) => shape_size k' n' us' ua uc X ((hLt.from_ (hbw1.trans (h.mono hbw1.size))).mono (hbw1.trans (h.mono hbw1.size)).size) hct1)
    rw [hsz] at HZ
    have hR := hR1 hp
    obtain ⟨q, hq⟩ : ∃ q, m * M.szT (.mk k' n' us') = q := ⟨_, rfl⟩
    have hq9 : q ≤ 16384 := by rw [← hq]; exact Nat.le_trans (Nat.mul_le_mul (show m ≤ 512 by omega) hz32) (by decide)
    have hqi : (m : Int) * (M.szT (.mk k' n' us') : Nat) = (q : Int) := by rw [← hq]; push_cast; rfl
    have HPK := Lib.hid (fun X (h : Below w1.heap.size w1 X) => packed_any ((M.putVs k [.mk k' n' us'] p 0 us).flatMap (·.2)) q X (by omega) hq9 (hTab.from (hbw1.trans (h.mono hbw1.size))))
    rw [hq] at hR
    rw [hR] at HPK
    generalize (M.putVs k [.mk k' n' us'] p 0 us).flatMap (·.2) = s at *
    generalize M.szT (.mk k' n' us') = z32 at *
    simp only at HP
    have HQI := Lib.hid hqi
    clear hR hR1 hR2 hq hpt hpl HPP HKP hsz hfs hlm hc hf HIN HEA hqi
    go_wp2_with fail
    refine wp_region_held (S := fun Y => Below w1.heap.size w1 Y) mixed ?_
    have hS0 : Below w1.heap.size w1 { w2 with drawn := w2.drawn + 1 } := Below.drew hb12
    rw [show Array.replicate (Array.size _) false = #[false, false, false, false, false, false, false, false, false, false] from rfl, show Array.size (α := Oper) _ = 10 from rfl]
    refine wpAnyH_take (i := 0) (v := tv k (m : Nat) (.slice (some ⟨c, x, none⟩) 1 ct)) rfl (by kernel_rfl) (by kernel_rfl) (by kernel_rfl) (fun _ _ _ h => h) (Or.inl ⟨by rfl, ?_⟩) hS0 ?_
    · intro Y hY
      have b0 := (hY.cell (p := ⟨w.heap.size, 0, none⟩) hltA).trans hB0w.c0; have b1 := (hY.cell (p := ⟨w.heap.size, 1, none⟩) hltA).trans hB0w.c1; have b2 := (hY.cell (p := ⟨w.heap.size, 2, none⟩) hltA).trans hB0w.c2
      go_simp
    simp only [Act.put, List.getElem_toArray, List.getElem_cons_zero, List.setIfInBounds_toArray, List.set_cons_zero, List.set_cons_succ]
    refine wpAnyH_take (i := 1) (v := vv N (.slice ab bs.length cb) (.slice au us.length cu) p) rfl (by kernel_rfl) (by kernel_rfl) (by kernel_rfl) (fun _ _ _ h => h) (Or.inl ⟨by rfl, ?_⟩) hS0 ?_
    · intro Y hY
      have hAY := hA0w.from_ hY hltB; have a0 := hAY.c0; have a1 := hAY.c1; have a2 := hAY.c2; have a3 := hAY.c3; have a4 := hAY.c4; have a5 := hAY.c5; have a6 := hAY.c6; simp only [Nat.zero_add] at a1 a2 a3 a4 a5 a6
      go_simp
    simp only [Act.put, List.getElem_toArray, List.getElem_cons_succ, List.getElem_cons_zero, List.setIfInBounds_toArray, List.set_cons_zero, List.set_cons_succ]
    refine wpAnyH_take (i := 3) (v := .pointer (some ⟨w.heap.size, 1, none⟩)) rfl (by kernel_rfl) (by kernel_rfl) (by kernel_rfl) (fun _ _ _ h => h) (Or.inl ⟨by rfl, ?_⟩) hS0 ?_
    · intro Y hY
      skip
      go_simp
    simp only [Act.put, List.getElem_toArray, List.getElem_cons_succ, List.getElem_cons_zero, List.setIfInBounds_toArray, List.set_cons_zero, List.set_cons_succ]
    refine wpAnyH_take (i := 4) (v := .int .i64 (m : Nat)) rfl (by kernel_rfl) (by kernel_rfl) (by kernel_rfl) (fun _ _ _ h => h) (Or.inl ⟨by rfl, ?_⟩) hS0 ?_
    · intro Y hY
      have b0 := (hY.cell (p := ⟨w.heap.size, 0, none⟩) hltA).trans hB0w.c0; have b1 := (hY.cell (p := ⟨w.heap.size, 1, none⟩) hltA).trans hB0w.c1; have b2 := (hY.cell (p := ⟨w.heap.size, 2, none⟩) hltA).trans hB0w.c2
      go_simp
    simp only [Act.put, List.getElem_toArray, List.getElem_cons_succ, List.getElem_cons_zero, List.setIfInBounds_toArray, List.set_cons_zero, List.set_cons_succ]
    refine wpAnyH_take (i := 5) (v := tv k' n' (.slice ua us'.length uc)) rfl (by kernel_rfl) (by kernel_rfl) (by kernel_rfl) (fun _ _ _ h => h) (Or.inl ⟨by rfl, ?_⟩) hS0 ?_
    · intro Y hY
      have b0 := (hY.cell (p := ⟨w.heap.size + 1 + 1, 0, none⟩) hltC).trans hB1w.c0; have b1 := (hY.cell (p := ⟨w.heap.size + 1 + 1, 1, none⟩) hltC).trans hB1w.c1; have b2 := (hY.cell (p := ⟨w.heap.size + 1 + 1, 2, none⟩) hltC).trans hB1w.c2
      go_simp
    simp only [Act.put, List.getElem_toArray, List.getElem_cons_succ, List.getElem_cons_zero, List.setIfInBounds_toArray, List.set_cons_zero, List.set_cons_succ]
    refine wpAnyH_ready (rs := [2]) (by kernel_rfl) (by simp) ?_
    refine AllReadyH.cons rfl (fun K hK => ?_) AllReadyH.nil
    go_simp
    refine (HP.out _ hS0).mono ?_
    rintro e w3 ⟨rfl, hb3⟩
    have hS3 : Below w1.heap.size w1 w3 := hS0.trans (Below.mono hb3 hS0.size)
    try go_wp2_with fail
    refine hK.out _ _ hS3 (fun _ => ?_)
    clear hK K
    simp only [List.setIfInBounds_toArray, List.set_cons_zero, List.set_cons_succ]
    refine wpAnyH_ready (rs := [6]) (by kernel_rfl) (by simp) ?_
    refine AllReadyH.cons rfl (fun K hK => ?_) AllReadyH.nil
    go_simp
    refine (HZ.out _ hS3).mono ?_
    rintro e w4 ⟨rfl, hb4⟩
    have hS4 : Below w1.heap.size w1 w4 := hS3.trans (Below.mono hb4 hS3.size)
    try go_wp2_with fail
    refine hK.out _ _ hS4 (fun _ => ?_)
    clear hK K
    simp only [List.setIfInBounds_toArray, List.set_cons_zero, List.set_cons_succ]
    refine wpAnyH_take (i := 7) (v := .int .i64 (q : Nat)) rfl (by kernel_rfl) (by kernel_rfl) (by kernel_rfl) (fun _ _ _ h => h) (Or.inl ⟨by rfl, ?_⟩) hS4 ?_
    · intro Y hY
      have hqi := HQI.out
      go_simp
      first | done | (rw [IntKind.wrap_i64]; omega)
    simp only [Act.put, List.getElem_toArray, List.getElem_cons_succ, List.getElem_cons_zero, List.setIfInBounds_toArray, List.set_cons_zero, List.set_cons_succ]
    refine wpAnyH_ready (rs := [8]) (by kernel_rfl) (by simp) ?_
    refine AllReadyH.cons rfl (fun K hK => ?_) AllReadyH.nil
    go_simp
    refine (HPK.out _ hS4).mono ?_
    rintro e w5 ⟨rfl, hb5⟩
    have hS5 : Below w1.heap.size w1 w5 := hS4.trans (Below.mono hb5 hS4.size)
    try go_wp2_with fail
    refine hK.out _ _ hS5 (fun _ => ?_)
    clear hK K
    simp only [List.setIfInBounds_toArray, List.set_cons_zero, List.set_cons_succ]
    refine wpAnyH_ready (rs := [9]) (by kernel_rfl) (by simp) ?_
    refine AllReadyH.cons rfl (fun K hK => ?_) AllReadyH.nil
    go_simp
    refine hK.out _ _ hS5 (fun _ => ?_)
    clear hK K
    simp only [List.setIfInBounds_toArray, List.set_cons_zero, List.set_cons_succ]
    refine wpAnyH_done (by kernel_rfl) ?_ _
    go_wp2_with fail
    go_ret
    exact ⟨rfl, hbw1.trans (Below.mono hS5 hbw1.size)⟩
  | false =>
    have hR := hR2 hp
    have HO := Lib.hid (fun X (h : Below w1.heap.size w1 X) => ofEach_any z ih k (m : Nat) [.mk k' n' us'] (some ⟨c, x, none⟩) ct us au cu X mb kb ib (hTX X (hbw1.trans (h.mono hbw1.size))) (hVX X (hbw1.trans (h.mono hbw1.size))).v hs HIN (fun _ => by simp) hcT hcV ((hK.from_ (hbw1.trans (h.mono hbw1.size))).mono (hbw1.trans (h.mono hbw1.size)).size) (hTab.from (hbw1.trans (h.mono hbw1.size))))
    have hel := each_length [.mk k' n' us'] us
    have HTB := Lib.hid (fun X (h : Below w1.heap.size w1 X) => hTab.from (hbw1.trans (h.mono hbw1.size)))
    generalize eachT [.mk k' n' us'] us = es at *
    have HEL := Lib.hid hel
    have HR := Lib.hid hR
    have hm9 : m ≤ 512 := by omega
    have he9 : es.length ≤ 4000 := by omega
    have HE9 := Lib.hid he9
    clear hR hR1 hR2 HPP HKP hfs hlm hc hf HIN hel he9
    go_wp2_with fail
    refine wp_region_held (S := fun Y => Below w1.heap.size w1 Y) mixed ?_
    have hS0 : Below w1.heap.size w1 { w2 with drawn := w2.drawn + 1 } := Below.drew hb12
    rw [show Array.replicate (Array.size _) false = #[false, false, false, false, false, false, false, false, false] from rfl, show Array.size (α := Oper) _ = 9 from rfl]
    refine wpAnyH_take (i := 0) (v := .map (some mb)) rfl (by kernel_rfl) (by kernel_rfl) (by kernel_rfl) (fun _ _ _ h => h) (Or.inl ⟨by rfl, ?_⟩) hS0 ?_
    · intro Y hY
      have kk := (hY.cell (p := ⟨kb, 0, none⟩) hkw1).trans HKBw.out.cell
      go_simp
    simp only [Act.put, List.getElem_toArray, List.getElem_cons_zero, List.setIfInBounds_toArray, List.set_cons_zero, List.set_cons_succ]
    refine wpAnyH_take (i := 1) (v := tv k (m : Nat) (.slice (some ⟨c, x, none⟩) 1 ct)) rfl (by kernel_rfl) (by kernel_rfl) (by kernel_rfl) (fun _ _ _ h => h) (Or.inl ⟨by rfl, ?_⟩) hS0 ?_
    · intro Y hY
      have b0 := (hY.cell (p := ⟨w.heap.size, 0, none⟩) hltA).trans hB0w.c0; have b1 := (hY.cell (p := ⟨w.heap.size, 1, none⟩) hltA).trans hB0w.c1; have b2 := (hY.cell (p := ⟨w.heap.size, 2, none⟩) hltA).trans hB0w.c2
      go_simp
    simp only [Act.put, List.getElem_toArray, List.getElem_cons_succ, List.getElem_cons_zero, List.setIfInBounds_toArray, List.set_cons_zero, List.set_cons_succ]
    refine wpAnyH_take (i := 2) (v := .pointer (some ⟨w.heap.size + 1, 5, none⟩)) rfl (by kernel_rfl) (by kernel_rfl) (by kernel_rfl) (fun _ _ _ h => h) (Or.inl ⟨by rfl, ?_⟩) hS0 ?_
    · intro Y hY
      skip
      go_simp
    simp only [Act.put, List.getElem_toArray, List.getElem_cons_succ, List.getElem_cons_zero, List.setIfInBounds_toArray, List.set_cons_zero, List.set_cons_succ]
    refine wpAnyH_take (i := 3) (v := .slice au us.length cu) rfl (by kernel_rfl) (by kernel_rfl) (by kernel_rfl) (fun _ _ _ h => h) (Or.inl ⟨by rfl, ?_⟩) hS0 ?_
    · intro Y hY
      have hAY := hA0w.from_ hY hltB; have a0 := hAY.c0; have a1 := hAY.c1; have a2 := hAY.c2; have a3 := hAY.c3; have a4 := hAY.c4; have a5 := hAY.c5; have a6 := hAY.c6; simp only [Nat.zero_add] at a1 a2 a3 a4 a5 a6
      go_simp
    simp only [Act.put, List.getElem_toArray, List.getElem_cons_succ, List.getElem_cons_zero, List.setIfInBounds_toArray, List.set_cons_zero, List.set_cons_succ]
    refine wpAnyH_take (i := 5) (v := .pointer (some ⟨w.heap.size, 1, none⟩)) rfl (by kernel_rfl) (by kernel_rfl) (by kernel_rfl) (fun _ _ _ h => h) (Or.inl ⟨by rfl, ?_⟩) hS0 ?_
    · intro Y hY
      skip
      go_simp
    simp only [Act.put, List.getElem_toArray, List.getElem_cons_succ, List.getElem_cons_zero, List.setIfInBounds_toArray, List.set_cons_zero, List.set_cons_succ]
    refine wpAnyH_take (i := 6) (v := .int .i64 (m : Nat)) rfl (by kernel_rfl) (by kernel_rfl) (by kernel_rfl) (fun _ _ _ h => h) (Or.inl ⟨by rfl, ?_⟩) hS0 ?_
    · intro Y hY
      have b0 := (hY.cell (p := ⟨w.heap.size, 0, none⟩) hltA).trans hB0w.c0; have b1 := (hY.cell (p := ⟨w.heap.size, 1, none⟩) hltA).trans hB0w.c1; have b2 := (hY.cell (p := ⟨w.heap.size, 2, none⟩) hltA).trans hB0w.c2
      go_simp
    simp only [Act.put, List.getElem_toArray, List.getElem_cons_succ, List.getElem_cons_zero, List.setIfInBounds_toArray, List.set_cons_zero, List.set_cons_succ]
    refine wpAnyH_ready (rs := [4]) (by kernel_rfl) (by simp) ?_
    refine AllReadyH.cons rfl (fun K hK => ?_) AllReadyH.nil
    go_simp
    refine (HO.out _ hS0).mono ?_
    rintro e w3 ⟨⟨v3, rfl, hO3⟩, hb3⟩
    have hS3 : Below w1.heap.size w1 w3 := hS0.trans (Below.mono hb3 hS0.size)
    obtain ⟨va, vc, hv3⟩ := hO3.len
    subst hv3
    have HMT := Lib.hid (mtree_any es m va vc w3 hO3.ts HE9.out HEA.out hm9 (HTB.out _ hS3))
    rw [HR.out] at HMT
    clear hO3
    try go_wp2_with fail
    refine hK.out _ _ hS3 (fun _ => ?_)
    clear hK K
    simp only [List.setIfInBounds_toArray, List.set_cons_zero, List.set_cons_succ]
    refine wpAnyH_ready (rs := [7]) (by kernel_rfl) (by simp) ?_
    refine AllReadyH.cons rfl (fun K hK => ?_) AllReadyH.nil
    go_simp
    refine HMT.out.mono ?_
    rintro e w4 ⟨rfl, hb4⟩
    have hS4 : Below w1.heap.size w1 w4 := hS3.trans (Below.mono hb4 hS3.size)
    try go_wp2_with fail
    refine hK.out _ _ hS4 (fun _ => ?_)
    clear hK K
    simp only [List.setIfInBounds_toArray, List.set_cons_zero, List.set_cons_succ]
    refine wpAnyH_ready (rs := [8]) (by kernel_rfl) (by simp) ?_
    refine AllReadyH.cons rfl (fun K hK => ?_) AllReadyH.nil
    go_simp
    refine hK.out _ _ hS4 (fun _ => ?_)
    clear hK K
    simp only [List.setIfInBounds_toArray, List.set_cons_zero, List.set_cons_succ]
    refine wpAnyH_done (by kernel_rfl) ?_ _
    go_wp2_with fail
    go_ret
    exact ⟨rfl, hbw1.trans (Below.mono hS4 hbw1.size)⟩
end Go.Proofs.YtaajkbclojmbeaaGreatDoor
namespace Go.Proofs.YtaajkbclojmbeaaGreatDoor
open Go Go.RowKit Go.Shelf Go.Lib
attribute [local go_sem] Oper.semAt_some

theorem rowR_length {k n : Int} {ts : List M.Ty} {p : Int} {us : List M.Va} (h : M.fitVs k ts p 0 us = 0) : (M.rowR k n ts p us).length = 32 := by
  unfold M.rowR
  split
  · exact M.treeT_length _ (M.chunks_all _)
  · exact M.treeT_length _ (M.roots_all _ _ _ _ _ h)
set_option maxRecDepth 100000 in
set_option maxHeartbeats 8000000 in
theorem list_any (z : Nat) (ih : Hid (RootC z)) (m : Nat) (t : M.Ty) (at_ : Option Addr) (ct : Nat) (N : Nat) (bs : List Bool) (us : List M.Va) (p : Int) (ab : Option Addr) (cb : Nat) (au : Option Addr) (cu : Nat) (w : World) (mb kb ib : Nat) (hT : LayT w w.heap.size [t] (.slice at_ 1 ct)) (hV : Vl w w.heap.size N bs us ab cb au cu) (hs : SizeOf.sizeOf us ≤ z + 1) (hc : M.chkT 0 (.mk 4 (m : Nat) [t]) = 0) (hf : M.fitV (.mk 4 (m : Nat) [t]) (.mk N bs us p) = 0) (h1 : M.cntT (.mk 4 (m : Nat) [t]) ≤ 1000) (h2 : M.cntV (.mk N bs us p) ≤ 6000) (hK : Tbl w w.heap.size mb kb ib) (hTab : Tab w) :
    Calls Tryz.prog 52 #[tv 4 (m : Nat) (.slice at_ 1 ct), vv N (.slice ab bs.length cb) (.slice au us.length cu) p, .pointer (some ⟨ib, 0, none⟩)] w (RP w (M.rootV (.mk 4 (m : Nat) [t]) (.mk N bs us p))) := by
  obtain ⟨hm, hlm, hfs⟩ := many_34 (Or.inr rfl) hc hf
  obtain ⟨w0, hw0⟩ : ∃ w0, (w.alloc (.cells #[.int .i64 4, .int .i64 (m : Nat), .slice at_ 1 ct] 32)).alloc (.cells #[.int .u64 (M.pt 0 N), .int .u64 (M.pt 1 N), .int .u64 (M.pt 2 N), .int .u64 (M.pt 3 N), .slice ab bs.length cb, .slice au us.length cu, .int .i64 p] 38) = w0 := ⟨_, rfl⟩
  have hb0 : Below w.heap.size w w0 := by rw [← hw0]; exact two_boxes _ _ _
  have hz0 : w0.heap.size = w.heap.size + 2 := by rw [← hw0]; simp
  have hB0 : BoxT w0 w.heap.size 4 (m : Nat) (.slice at_ 1 ct) := by rw [← hw0]; exact ⟨by simp [go_sem], by simp [go_sem], by simp [go_sem]⟩
  have hA0 : Cells7 w0 (w.heap.size + 1) 0 N (.slice ab bs.length cb) (.slice au us.length cu) p := by
    rw [← hw0]
    have := Cells7.new (w.alloc (.cells #[.int .i64 4, .int .i64 (m : Nat), .slice at_ 1 ct] 32)) N (.slice ab bs.length cb) (.slice au us.length cu) p 38
    rwa [World.size_alloc] at this
  have hlt0 : w.heap.size < w0.heap.size := by omega
  have hlt1 : w.heap.size + 1 < w0.heap.size := by omega
  have HW := Lib.hid hw0
  have HZ0 := Lib.hid hz0
  have mixed : Tryz.prog.follows .mixedOrders = true := by kernel_rfl
  clear hw0 hz0
  have HI := Lib.hid (fun X (h : Below w0.heap.size w0 X) => items_any z ih 4 m t at_ ct N bs us p ab cb au cu X mb kb ib ((hT.from_ (hb0.trans (h.mono hb0.size))).mono (hb0.trans (h.mono hb0.size)).size) ((hV.from_ (hb0.trans (h.mono hb0.size))).mono (hb0.trans (h.mono hb0.size)).size) hs (Or.inr rfl) hc hf h1 h2 ((hK.from_ (hb0.trans (h.mono hb0.size))).mono (hb0.trans (h.mono hb0.size)).size) (hTab.from (hb0.trans (h.mono hb0.size))))
  have hRl : (M.rowR 4 (m : Nat) [t] p us).length = 32 := rowR_length hfs
  have hil : ib < w0.heap.size := by have := hK.ilt; omega
  have HIB : Hid (Boxed w0 ib 52 (.func (.func 49) #[] #[.pointer (some ⟨kb, 0, none⟩)])) := (hb0.block _ hK.ilt).trans hK.ibx
  rw [M.rootV4]
  generalize M.rowR 4 (m : Nat) [t] p us = R at *
  have HM := Lib.hid (fun X (h : Below w0.heap.size w0 X) => mmix_any R us.length X (by omega) hRl (hTab.from (hb0.trans (h.mono hb0.size))))
  have hul9 : us.length ≤ 6000 := by omega
  clear hfs hlm hf hc hRl ih
  go_enter Tryz.func52, Tryz.ntmps52
  go_wp2_with fail
  rw [HW.out]
  refine wp_region_held (S := fun Y => Below w0.heap.size w0 Y) mixed ?_
  have hS0 : Below w0.heap.size w0 { w0 with drawn := w0.drawn + 1 } := Below.drew (Below.refl _ _)
  rw [show Array.replicate (Array.size _) false = #[false, false, false, false, false, false, false, false, false, false] from rfl, show Array.size (α := Oper) _ = 10 from rfl]
  refine wpAnyH_take (i := 0) (v := .func (.func 49) #[] #[.pointer (some ⟨kb, 0, none⟩)]) rfl (by kernel_rfl) (by kernel_rfl) (by kernel_rfl) (fun _ _ _ h => h) (Or.inl ⟨by rfl, ?_⟩) hS0 ?_
  · intro Y hY
    have bb := HIB.out.cell; have bc := (hY.cell (p := ⟨ib, 0, none⟩) hil).trans bb
    go_simp
  simp only [Act.put, List.getElem_toArray, List.getElem_cons_zero, List.setIfInBounds_toArray, List.set_cons_zero, List.set_cons_succ]
  refine wpAnyH_take (i := 1) (v := tv 4 (m : Nat) (.slice at_ 1 ct)) rfl (by kernel_rfl) (by kernel_rfl) (by kernel_rfl) (fun _ _ _ h => h) (Or.inl ⟨by rfl, ?_⟩) hS0 ?_
  · intro Y hY
    have b0 := (hY.cell (p := ⟨w.heap.size, 0, none⟩) hlt0).trans hB0.c0; have b1 := (hY.cell (p := ⟨w.heap.size, 1, none⟩) hlt0).trans hB0.c1; have b2 := (hY.cell (p := ⟨w.heap.size, 2, none⟩) hlt0).trans hB0.c2
    go_simp
  simp only [Act.put, List.getElem_toArray, List.getElem_cons_succ, List.getElem_cons_zero, List.setIfInBounds_toArray, List.set_cons_zero, List.set_cons_succ]
  refine wpAnyH_take (i := 2) (v := vv N (.slice ab bs.length cb) (.slice au us.length cu) p) rfl (by kernel_rfl) (by kernel_rfl) (by kernel_rfl) (fun _ _ _ h => h) (Or.inl ⟨by rfl, ?_⟩) hS0 ?_
  · intro Y hY
    have hAY := hA0.from_ hY hlt1; have a0 := hAY.c0; have a1 := hAY.c1; have a2 := hAY.c2; have a3 := hAY.c3; have a4 := hAY.c4; have a5 := hAY.c5; have a6 := hAY.c6; simp only [Nat.zero_add] at a1 a2 a3 a4 a5 a6
    go_simp
  simp only [Act.put, List.getElem_toArray, List.getElem_cons_succ, List.getElem_cons_zero, List.setIfInBounds_toArray, List.set_cons_zero, List.set_cons_succ]
  refine wpAnyH_take (i := 4) (v := .pointer (some ⟨w.heap.size + 1, 5, none⟩)) rfl (by kernel_rfl) (by kernel_rfl) (by kernel_rfl) (fun _ _ _ h => h) (Or.inl ⟨by rfl, ?_⟩) hS0 ?_
  · intro Y hY
    skip
    go_simp
  simp only [Act.put, List.getElem_toArray, List.getElem_cons_succ, List.getElem_cons_zero, List.setIfInBounds_toArray, List.set_cons_zero, List.set_cons_succ]
  refine wpAnyH_take (i := 5) (v := .slice au us.length cu) rfl (by kernel_rfl) (by kernel_rfl) (by kernel_rfl) (fun _ _ _ h => h) (Or.inl ⟨by rfl, ?_⟩) hS0 ?_
  · intro Y hY
    have hAY := hA0.from_ hY hlt1; have a0 := hAY.c0; have a1 := hAY.c1; have a2 := hAY.c2; have a3 := hAY.c3; have a4 := hAY.c4; have a5 := hAY.c5; have a6 := hAY.c6; simp only [Nat.zero_add] at a1 a2 a3 a4 a5 a6
    go_simp
  simp only [Act.put, List.getElem_toArray, List.getElem_cons_succ, List.getElem_cons_zero, List.setIfInBounds_toArray, List.set_cons_zero, List.set_cons_succ]
  refine wpAnyH_take (i := 6) (v := .int .i64 (us.length : Nat)) rfl (by kernel_rfl) (by kernel_rfl) (by kernel_rfl) (fun _ _ _ h => h) (Or.inl ⟨by rfl, ?_⟩) hS0 ?_
  · intro Y hY
    skip
    go_simp
  simp only [Act.put, List.getElem_toArray, List.getElem_cons_succ, List.getElem_cons_zero, List.setIfInBounds_toArray, List.set_cons_zero, List.set_cons_succ]
  refine wpAnyH_take (i := 7) (v := .int .u64 (us.length : Nat)) rfl (by kernel_rfl) (by kernel_rfl) (by kernel_rfl) (fun _ _ _ h => h) (Or.inl ⟨by rfl, ?_⟩) hS0 ?_
  · intro Y hY
    skip
    go_simp
    first | done | (rw [IntKind.wrap_u64]; omega)
  simp only [Act.put, List.getElem_toArray, List.getElem_cons_succ, List.getElem_cons_zero, List.setIfInBounds_toArray, List.set_cons_zero, List.set_cons_succ]
  refine wpAnyH_ready (rs := [3]) (by kernel_rfl) (by simp) ?_
  refine AllReadyH.cons rfl (fun K hK => ?_) AllReadyH.nil
  go_simp
  refine (HI.out _ hS0).mono ?_
  rintro e w1 ⟨rfl, hb1⟩
  have hS1 : Below w0.heap.size w0 w1 := hS0.trans (Below.mono hb1 hS0.size)
  try go_wp2_with fail
  refine hK.out _ _ hS1 (fun _ => ?_)
  clear hK K
  simp only [List.setIfInBounds_toArray, List.set_cons_zero, List.set_cons_succ]
  refine wpAnyH_ready (rs := [8]) (by kernel_rfl) (by simp) ?_
  refine AllReadyH.cons rfl (fun K hK => ?_) AllReadyH.nil
  go_simp
  refine (HM.out _ hS1).mono ?_
  rintro e w2 ⟨rfl, hb2⟩
  have hS2 : Below w0.heap.size w0 w2 := hS1.trans (Below.mono hb2 hS1.size)
  try go_wp2_with fail
  refine hK.out _ _ hS2 (fun _ => ?_)
  clear hK K
  simp only [List.setIfInBounds_toArray, List.set_cons_zero, List.set_cons_succ]
  refine wpAnyH_ready (rs := [9]) (by kernel_rfl) (by simp) ?_
  refine AllReadyH.cons rfl (fun K hK => ?_) AllReadyH.nil
  go_simp
  refine hK.out _ _ hS2 (fun _ => ?_)
  clear hK K
  simp only [List.setIfInBounds_toArray, List.set_cons_zero, List.set_cons_succ]
  refine wpAnyH_done (by kernel_rfl) ?_ _
  go_wp2_with fail
  go_ret
  exact ⟨rfl, hb0.trans (Below.mono hS2 hb0.size)⟩
end Go.Proofs.YtaajkbclojmbeaaGreatDoor
namespace Go.Proofs.YtaajkbclojmbeaaGreatDoor
open Go Go.RowKit Go.Shelf Go.Lib
attribute [local go_sem] Oper.semAt_some

set_option maxRecDepth 100000 in
set_option maxHeartbeats 8000000 in
theorem container_any (z : Nat) (ih : Hid (RootC z)) (n : Int) (ts : List M.Ty) (at_ : Option Addr) (ct : Nat) (N : Nat) (bs : List Bool) (us : List M.Va) (p : Int) (ab : Option Addr) (cb : Nat) (au : Option Addr) (cu : Nat) (w : World) (mb kb ib : Nat) (hT : LayT w w.heap.size ts (.slice at_ ts.length ct)) (hV : Vl w w.heap.size N bs us ab cb au cu) (hs : SizeOf.sizeOf us ≤ z + 1) (hc : M.chkT 0 (.mk 7 n ts) = 0) (hf : M.fitV (.mk 7 n ts) (.mk N bs us p) = 0) (h1 : M.cntT (.mk 7 n ts) ≤ 1000) (h2 : M.cntV (.mk N bs us p) ≤ 6000) (hK : Tbl w w.heap.size mb kb ib) (hTab : Tab w) :
    Calls Tryz.prog 56 #[tv 7 n (.slice at_ ts.length ct), vv N (.slice ab bs.length cb) (.slice au us.length cu) p, .pointer (some ⟨kb, 0, none⟩)] w (RP w (M.rootV (.mk 7 n ts) (.mk N bs us p))) := by
  obtain ⟨_, ho, hfs⟩ := M.of_fit hf
  have hform := (M.chkT_ok.1 hc).2.1
  have hul : us.length = ts.length := by rw [M.ofV_7] at ho; simp at ho; exact ho.2
  have htl : 1 ≤ ts.length ∧ ts.length ≤ 16 := by unfold M.formT at hform; simp at hform; exact ⟨by omega, by omega⟩
  have hin7 : ∀ j, j < us.length → M.inT 7 ts p j = M.tyAt ts j := fun j hj => by
    unfold M.inT M.tyAt
    rw [if_pos rfl, Nat.min_eq_left (by omega)]
  have heq := each_eq hin7
  have HEA := Lib.hid (M.roots_all 7 ts p 0 us hfs)
  rw [heq] at HEA
  have HIN : Hid (∀ i u, us[i]? = some u → M.chkT 0 (M.tyAt ts i) = 0 ∧ M.fitV (M.tyAt ts i) u = 0) := fun i u hu => by
    have hi := (List.getElem?_eq_some_iff.1 hu).1
    have h2 := M.fitVs_at 7 ts p us 0 i u hfs hu
    rw [Nat.zero_add, hin7 i hi] at h2
    refine ⟨?_, h2⟩
    rw [← hin7 i hi]
    unfold M.inT
    rw [if_pos rfl, List.getElem?_eq_getElem (by omega)]
    exact M.chkT_in hc (List.getElem_mem _)
  have hcT : M.cntTs ts ≤ 999 := by rw [M.cntT] at h1; omega
  have hcV : M.cntVs us ≤ 5999 := by rw [M.cntV] at h2; omega
  rw [M.rootV7, heq]
  have hel := each_length ts us
  obtain ⟨w0, hw0⟩ : ∃ w0, (w.alloc (.cells #[.int .i64 7, .int .i64 n, .slice at_ ts.length ct] 32)).alloc (.cells #[.int .u64 (M.pt 0 N), .int .u64 (M.pt 1 N), .int .u64 (M.pt 2 N), .int .u64 (M.pt 3 N), .slice ab bs.length cb, .slice au us.length cu, .int .i64 p] 38) = w0 := ⟨_, rfl⟩
  have hb0 : Below w.heap.size w w0 := by rw [← hw0]; exact two_boxes _ _ _
  have hz0 : w0.heap.size = w.heap.size + 2 := by rw [← hw0]; simp
  have hB0 : BoxT w0 w.heap.size 7 n (.slice at_ ts.length ct) := by rw [← hw0]; exact ⟨by simp [go_sem], by simp [go_sem], by simp [go_sem]⟩
  have hA0 : Cells7 w0 (w.heap.size + 1) 0 N (.slice ab bs.length cb) (.slice au us.length cu) p := by
    rw [← hw0]
    have := Cells7.new (w.alloc (.cells #[.int .i64 7, .int .i64 n, .slice at_ ts.length ct] 32)) N (.slice ab bs.length cb) (.slice au us.length cu) p 38
    rwa [World.size_alloc] at this
  have hlt0 : w.heap.size < w0.heap.size := by omega
  have hlt1 : w.heap.size + 1 < w0.heap.size := by omega
  have HW := Lib.hid hw0
  have HZ0 := Lib.hid hz0
  have mixed : Tryz.prog.follows .mixedOrders = true := by kernel_rfl
  clear hw0 hz0
  have HE := Lib.hid (fun X (h : Below w0.heap.size w0 X) => ofEach_any z ih 7 n ts at_ ct us au cu X mb kb ib ((hT.from_ (hb0.trans (h.mono hb0.size))).mono (hb0.trans (h.mono hb0.size)).size) ((hV.from_ (hb0.trans (h.mono hb0.size))).mono (hb0.trans (h.mono hb0.size)).size).v hs HIN (fun _ => htl.1) hcT hcV ((hK.from_ (hb0.trans (h.mono hb0.size))).mono (hb0.trans (h.mono hb0.size)).size) (hTab.from (hb0.trans (h.mono hb0.size))))
  have hkl : kb < w0.heap.size := by have := hK.klt; omega
  have HKB : Hid (Boxed w0 kb 50 (.map (some mb))) := (hb0.block _ hK.klt).trans hK.kbx
  have HTB := Lib.hid (fun X (h : Below w0.heap.size w0 X) => hTab.from (hb0.trans (h.mono hb0.size)))
  generalize eachT ts us = es at *
  have he9 : es.length ≤ 4000 := by omega
  have htl9 : ts.length ≤ 512 := by omega
  have HE9 := Lib.hid he9
  clear hfs hf hc ih heq HIN hin7 hel he9 ho hform hul
  go_enter Tryz.func56, Tryz.ntmps56
  go_wp2_with fail
  rw [HW.out]
  refine wp_region_held (S := fun Y => Below w0.heap.size w0 Y) mixed ?_
  have hS0 : Below w0.heap.size w0 { w0 with drawn := w0.drawn + 1 } := Below.drew (Below.refl _ _)
  rw [show Array.replicate (Array.size _) false = #[false, false, false, false, false, false, false, false, false, false] from rfl, show Array.size (α := Oper) _ = 10 from rfl]
  refine wpAnyH_take (i := 0) (v := .map (some mb)) rfl (by kernel_rfl) (by kernel_rfl) (by kernel_rfl) (fun _ _ _ h => h) (Or.inl ⟨by rfl, ?_⟩) hS0 ?_
  · intro Y hY
    have kk := (hY.cell (p := ⟨kb, 0, none⟩) hkl).trans HKB.out.cell
    go_simp
  simp only [Act.put, List.getElem_toArray, List.getElem_cons_zero, List.setIfInBounds_toArray, List.set_cons_zero, List.set_cons_succ]
  refine wpAnyH_take (i := 1) (v := tv 7 n (.slice at_ ts.length ct)) rfl (by kernel_rfl) (by kernel_rfl) (by kernel_rfl) (fun _ _ _ h => h) (Or.inl ⟨by rfl, ?_⟩) hS0 ?_
  · intro Y hY
    have b0 := (hY.cell (p := ⟨w.heap.size, 0, none⟩) hlt0).trans hB0.c0; have b1 := (hY.cell (p := ⟨w.heap.size, 1, none⟩) hlt0).trans hB0.c1; have b2 := (hY.cell (p := ⟨w.heap.size, 2, none⟩) hlt0).trans hB0.c2
    go_simp
  simp only [Act.put, List.getElem_toArray, List.getElem_cons_succ, List.getElem_cons_zero, List.setIfInBounds_toArray, List.set_cons_zero, List.set_cons_succ]
  refine wpAnyH_take (i := 2) (v := .pointer (some ⟨w.heap.size + 1, 5, none⟩)) rfl (by kernel_rfl) (by kernel_rfl) (by kernel_rfl) (fun _ _ _ h => h) (Or.inl ⟨by rfl, ?_⟩) hS0 ?_
  · intro Y hY
    skip
    go_simp
  simp only [Act.put, List.getElem_toArray, List.getElem_cons_succ, List.getElem_cons_zero, List.setIfInBounds_toArray, List.set_cons_zero, List.set_cons_succ]
  refine wpAnyH_take (i := 3) (v := .slice au us.length cu) rfl (by kernel_rfl) (by kernel_rfl) (by kernel_rfl) (fun _ _ _ h => h) (Or.inl ⟨by rfl, ?_⟩) hS0 ?_
  · intro Y hY
    have hAY := hA0.from_ hY hlt1; have a0 := hAY.c0; have a1 := hAY.c1; have a2 := hAY.c2; have a3 := hAY.c3; have a4 := hAY.c4; have a5 := hAY.c5; have a6 := hAY.c6; simp only [Nat.zero_add] at a1 a2 a3 a4 a5 a6
    go_simp
  simp only [Act.put, List.getElem_toArray, List.getElem_cons_succ, List.getElem_cons_zero, List.setIfInBounds_toArray, List.set_cons_zero, List.set_cons_succ]
  refine wpAnyH_take (i := 5) (v := .pointer (some ⟨w.heap.size, 2, none⟩)) rfl (by kernel_rfl) (by kernel_rfl) (by kernel_rfl) (fun _ _ _ h => h) (Or.inl ⟨by rfl, ?_⟩) hS0 ?_
  · intro Y hY
    skip
    go_simp
  simp only [Act.put, List.getElem_toArray, List.getElem_cons_succ, List.getElem_cons_zero, List.setIfInBounds_toArray, List.set_cons_zero, List.set_cons_succ]
  refine wpAnyH_take (i := 6) (v := .slice at_ ts.length ct) rfl (by kernel_rfl) (by kernel_rfl) (by kernel_rfl) (fun _ _ _ h => h) (Or.inl ⟨by rfl, ?_⟩) hS0 ?_
  · intro Y hY
    have b0 := (hY.cell (p := ⟨w.heap.size, 0, none⟩) hlt0).trans hB0.c0; have b1 := (hY.cell (p := ⟨w.heap.size, 1, none⟩) hlt0).trans hB0.c1; have b2 := (hY.cell (p := ⟨w.heap.size, 2, none⟩) hlt0).trans hB0.c2
    go_simp
  simp only [Act.put, List.getElem_toArray, List.getElem_cons_succ, List.getElem_cons_zero, List.setIfInBounds_toArray, List.set_cons_zero, List.set_cons_succ]
  refine wpAnyH_take (i := 7) (v := .int .i64 (ts.length : Nat)) rfl (by kernel_rfl) (by kernel_rfl) (by kernel_rfl) (fun _ _ _ h => h) (Or.inl ⟨by rfl, ?_⟩) hS0 ?_
  · intro Y hY
    skip
    go_simp
  simp only [Act.put, List.getElem_toArray, List.getElem_cons_succ, List.getElem_cons_zero, List.setIfInBounds_toArray, List.set_cons_zero, List.set_cons_succ]
  refine wpAnyH_ready (rs := [4]) (by kernel_rfl) (by simp) ?_
  refine AllReadyH.cons rfl (fun K hK => ?_) AllReadyH.nil
  go_simp
  refine (HE.out _ hS0).mono ?_
  rintro e w1 ⟨⟨v1, rfl, hO1⟩, hb1⟩
  have hS1 : Below w0.heap.size w0 w1 := hS0.trans (Below.mono hb1 hS0.size)
  obtain ⟨va, vc, hv1⟩ := hO1.len
  subst hv1
  have HMT := Lib.hid (mtree_any es ts.length va vc w1 hO1.ts HE9.out HEA.out htl9 (HTB.out _ hS1))
  clear hO1
  try go_wp2_with fail
  refine hK.out _ _ hS1 (fun _ => ?_)
  clear hK K
  simp only [List.setIfInBounds_toArray, List.set_cons_zero, List.set_cons_succ]
  refine wpAnyH_ready (rs := [8]) (by kernel_rfl) (by simp) ?_
  refine AllReadyH.cons rfl (fun K hK => ?_) AllReadyH.nil
  go_simp
  refine HMT.out.mono ?_
  rintro e w2 ⟨rfl, hb2⟩
  have hS2 : Below w0.heap.size w0 w2 := hS1.trans (Below.mono hb2 hS1.size)
  try go_wp2_with fail
  refine hK.out _ _ hS2 (fun _ => ?_)
  clear hK K
  simp only [List.setIfInBounds_toArray, List.set_cons_zero, List.set_cons_succ]
  refine wpAnyH_ready (rs := [9]) (by kernel_rfl) (by simp) ?_
  refine AllReadyH.cons rfl (fun K hK => ?_) AllReadyH.nil
  go_simp
  refine hK.out _ _ hS2 (fun _ => ?_)
  clear hK K
  simp only [List.setIfInBounds_toArray, List.set_cons_zero, List.set_cons_succ]
  refine wpAnyH_done (by kernel_rfl) ?_ _
  go_wp2_with fail
  go_ret
  exact ⟨rfl, hb0.trans (Below.mono hS2 hb0.size)⟩
end Go.Proofs.YtaajkbclojmbeaaGreatDoor
