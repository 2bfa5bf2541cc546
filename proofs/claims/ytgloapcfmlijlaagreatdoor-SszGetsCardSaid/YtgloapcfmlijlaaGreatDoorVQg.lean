/- The landed package ssz: cut. -/
import Derived.Test.YtgloapcfmlijlaaGreatDoorK15
namespace Go.Proofs.YtgloapcfmlijlaaGreatDoor
open Go Go.RowKit Go.Lib
attribute [local go_sem] Oper.semAt_some

theorem Tryz.ofStr : (Tryz.prog.info? 9).map (fun i => (i.zero, i.size, i.bytes)) = some (some (.string ⟨#[]⟩), 1, 16) := by kernel_rfl
theorem made_texts (n : Nat) (j : Nat) (hj : j < n) : (madeCells (Value.string ⟨#[]⟩).cells n)[j]? = some (.string ⟨#[]⟩) := by
  rw [show (Value.string ⟨#[]⟩).cells = #[Value.string ⟨#[]⟩] from rfl]
  simp [madeCells, hj, Nat.mod_one]

theorem allocs_below (w : World) : ∀ os : List Obj, Below w.heap.size w (os.foldl World.alloc w)
  | [] => Below.refl _ _
  | o :: os => ((Below.refl w.heap.size w).alloc (Nat.le_refl _) o).trans ((allocs_below (w.alloc o) os).mono (by simp))
theorem allocs_at (w : World) : ∀ (os : List Obj) (i : Nat) (x : Obj), os[i]? = some x → (os.foldl World.alloc w).heap[w.heap.size + i]? = some x
  | [], i, x, h => by simp at h
  | o :: os, 0, x, h => by
    cases h
    exact ((allocs_below (w.alloc o) os).block _ (by simp)).trans (World.alloc_heap_new w o)
  | o :: os, i + 1, x, h => by
    have := allocs_at (w.alloc o) os i x (by simpa using h)
    rw [World.size_alloc] at this
    rw [show w.heap.size + (i + 1) = w.heap.size + 1 + i by omega]
    exact this
/-- Where the first loop gives up. -/
def CutX (A : World) (g nb ab eb : Nat) (ks : List (Option Nat)) (s : List UInt8) (ch : List PanicEntry) (W : World) : Prop := ch = panC 2 ∧ s.length < M.hdLen ks ∧ Gr A W (fun b => b = g ∨ b = nb ∨ b = ab ∨ b = eb)
/-- Between two rounds of the first loop. -/
def CutI (A : World) (g nb ab eb items : Nat) (ks : List (Option Nat)) (s : List UInt8) (pre : List Ep) (W : World) : Prop :=
  M.hdLen (ks.take pre.length) ≤ s.length ∧ RC A g nb ab eb items (M.hdLen (ks.take pre.length)) (M.apT ks pre.length) (M.offsT s 0 (ks.take pre.length)) (M.cutT s ks pre.length) W
theorem CutI_own {A : World} {g nb ab eb items : Nat} {ks : List (Option Nat)} {s : List UInt8} (hg : g < A.heap.size) (hn : nb < A.heap.size) (hb : ab < A.heap.size) (hd : eb < A.heap.size) : OwnFrom A.heap.size (CutI A g nb ab eb items ks s) := fun _ _ _ _row h hgr hr =>
  ⟨h.1, h.2.grow hgr hg hn hb hd fun j e => ⟨(hr j e).1, .inr (hr j e).2⟩⟩

theorem M.le_last : ∀ (os : List Nat) (len : Nat), (∀ i a b, (os ++ [len])[i]? = some a → (os ++ [len])[i + 1]? = some b → a ≤ b) → ∀ x ∈ os ++ [len], x ≤ len
  | [], len, _, x, hx => by simp at hx; omega
  | o :: os, len, h, x, hx => by
    have ih := M.le_last os len fun i a b ha hb => h (i + 1) a b (by simpa using ha) (by simpa using hb)
    rcases List.mem_cons.1 hx with rfl | hx
    · cases os with
      | nil => exact h 0 _ _ rfl rfl
      | cons o2 os => exact Nat.le_trans (h 0 _ _ rfl rfl) (ih o2 (by simp))
    · exact ih x hx
set_option maxRecDepth 100000 in
set_option maxHeartbeats 4000000 in
theorem cut_any (k n : Int) (ts : List M.Ty) (a : Option Addr) (cap : Nat) (items : Nat) (s : List UInt8) (w : World) (hL : LayT w w.heap.size ts (.slice a ts.length cap)) (hct : M.cntTs ts ≤ 999) (hit : items ≤ 6000) (ht : items ≠ 0 → 1 ≤ ts.length) (hs : s.length ≤ 8000)
    (ks : List (Option Nat)) (hks : Hid (ks = (List.range items).map fun i => kdT (M.tyAt ts i))) :
    Calls Tryz.prog 149 #[tv k n (.slice a ts.length cap), .string ⟨s.toArray⟩, .int .i64 (items : Nat)] w fun e w' =>
      ((M.splitB ks s = none ∧ e = pan 2) ∨ (∃ bs g, M.splitB ks s = some bs ∧ e = .returned (.slice (some ⟨g, 0, none⟩) items items) ∧ w.heap.size ≤ g ∧ g < w'.heap.size ∧ BkS w' g items (fun i => bs.getD i []))) ∧ Below w.heap.size w w' := by
  obtain ⟨i0, hi, hz0, hz1, hz2⟩ := info_parts Tryz.ofStr
  obtain ⟨m, hm⟩ : ∃ m, m = madeCells (Value.string ⟨#[]⟩).cells ((items : Int).toNat * i0.size) := ⟨_, rfl⟩
  have hmk : ∀ W : World, (Instr.makeSlice 39 (.int .i64 (items : Int)) (.int .i64 (items : Int))).run Tryz.prog W = .ok (.slice (some ⟨W.heap.size, 0, none⟩) items items) (W.alloc (.cells m 9)) := fun W => by
    have h := run_make (P := Tryz.prog) W 39 9 i0 (.string ⟨#[]⟩) Tryz.underlying39 hi hz0 .i64 .i64 items items (by omega) (by omega) (by rw [hz2]; omega) (by omega)
    rw [← hm] at h
    simpa using h
  have hm0 : ∀ j, j < items → m[j]? = some (.string ⟨#[]⟩) := fun j hj => by
    rw [hz1, Nat.mul_one, Int.toNat_natCast] at hm
    rw [hm]
    exact made_texts items j hj
  clear hm hi hz0 hz1 hz2
  refine calls_of_wpE (n := 6) Tryz.func149 rfl ?_
  simp only [Tryz.ntmps149, List.size_toArray, List.length_cons, List.length_nil, Nat.reduceAdd, Nat.reduceSub, Array.replicate_succ, Array.replicate_zero, List.push_toArray, List.append_toArray, List.nil_append, List.cons_append]
  refine wpE_then (n := 6) ?_
  gi_wp2_with fail
  refine wpE_then (n := 6) ?_
  gi_wp2_with fail
  refine wpE_then (n := 6) ?_
  gi_wp2_with fail
  refine wpE_then (n := 6) ?_
  gi_wp2_with fail
  refine wpE_seq ?_
  refine wpE_then (n := 6) ?_
  gi_wp2_with fail
  refine ⟨trivial, (callsIn_wide.2 (parts_any k n (.slice a ts.length cap) items _)).mono ?_⟩
  rintro e w' ⟨rfl, rfl⟩
  gi_wp2_with fail
  obtain ⟨A, hA⟩ : ∃ A, ((((((((w.alloc (.cells #[.int .i64 k, .int .i64 n, .slice a ts.length cap] 24)).alloc (.cells #[.string ⟨s.toArray⟩] 9)).alloc (.cells m 9)).alloc (.cells #[.slice (some ⟨w.heap.size + 1 + 1, 0, none⟩) items items] 39)).alloc (.cells #[.int .i64 0] 3)).alloc (.cells #[.slice none 0 0] 137)).alloc (.cells #[.slice none 0 0] 137)).alloc (.cells #[.int .i64 k, .int .i64 n, .slice a ts.length cap] 24)).alloc (.cells #[.int .i64 (items : Nat)] 3) = A := ⟨_, rfl⟩
  rw [hA]
  have hzA : A.heap.size = w.heap.size + 9 := by rw [← hA]; simp
  have hbA : Below w.heap.size w A := by rw [← hA]; (repeat (first | exact Below.refl _ _ | refine Below.drew ?_ | refine Below.alloc ?_ (by first | omega | (simp; omega) | simp) _ | refine Below.setCell ?_ (by first | omega | (simp; omega) | simp) _))
  have blk := allocs_at w ([.cells #[.int .i64 k, .int .i64 n, .slice a ts.length cap] 24, .cells #[.string ⟨s.toArray⟩] 9, .cells m 9, .cells #[.slice (some ⟨w.heap.size + 1 + 1, 0, none⟩) items items] 39, .cells #[.int .i64 0] 3, .cells #[.slice none 0 0] 137, .cells #[.slice none 0 0] 137, .cells #[.int .i64 k, .int .i64 n, .slice a ts.length cap] 24, .cells #[.int .i64 (items : Nat)] 3] : List Obj)
  rw [show ([.cells #[.int .i64 k, .int .i64 n, .slice a ts.length cap] 24, .cells #[.string ⟨s.toArray⟩] 9, .cells m 9, .cells #[.slice (some ⟨w.heap.size + 1 + 1, 0, none⟩) items items] 39, .cells #[.int .i64 0] 3, .cells #[.slice none 0 0] 137, .cells #[.slice none 0 0] 137, .cells #[.int .i64 k, .int .i64 n, .slice a ts.length cap] 24, .cells #[.int .i64 (items : Nat)] 3] : List Obj).foldl World.alloc w = A from hA] at blk
  have b1 := blk 1 _ rfl
  have b2 := blk 2 _ rfl
  have b3 := blk 3 _ rfl
  have b4 := blk 4 _ rfl
  have b5 := blk 5 _ rfl
  have b6 := blk 6 _ rfl
  have b7 := blk 7 _ rfl
  have b8 := blk 8 _ rfl
  have hA7 : BoxT A (w.heap.size + 7) k n (.slice a ts.length cap) := ⟨by simp [World.cell?, b7], by simp [World.cell?, b7], by simp [World.cell?, b7]⟩
  have hA8 : A.cell? ⟨w.heap.size + 8, 0, none⟩ = some (.int .i64 (items : Nat)) := by simp [World.cell?, b8]
  have hA1s : Boxed A (w.heap.size + 1) 9 (.string ⟨s.toArray⟩) := b1
  have hA3 : Boxed A (w.heap.size + 3) 39 (.slice (some ⟨w.heap.size + 2, 0, none⟩) items items) := b3
  have hR0 : BkS A (w.heap.size + 2) items (M.cutT s ks 0) := by
    refine ⟨fun j hj => ?_, fun j hj => by unfold World.frozen?; rw [b2]; simp⟩
    have := hm0 j hj
    unfold World.cell?
    rw [b2]
    simpa [M.cutT] using this
  have hI0 : CutI A (w.heap.size + 2) (w.heap.size + 4) (w.heap.size + 5) (w.heap.size + 6) items ks s [] A := ⟨by simp [M.hdLen], Gr.refl _ _, by simpa [M.hdLen] using (show Boxed A (w.heap.size + 4) 3 (.int .i64 0) from b4), hR0, _, _, (show Boxed A (w.heap.size + 5) 137 (.slice none 0 0) from b5), (show Boxed A (w.heap.size + 6) 137 (.slice none 0 0) from b6), OwI.nil _ _, OwI.nil _ _, fun g hg => by cases hg⟩
  clear blk b1 b2 b3 b4 b5 b6 b7 b8 hm0 hmk hA
  refine wpE_block ?_
  have hIo : OwnFrom A.heap.size (CutI A (w.heap.size + 2) (w.heap.size + 4) (w.heap.size + 5) (w.heap.size + 6) items ks s) := CutI_own (by omega) (by omega) (by omega) (by omega)
  obtain ⟨A1, hA1⟩ : ∃ A1 : Nat → Ep → Act, A1 = fun bx x => { tmps := List.toArray (tv k n (.slice a ts.length cap) :: Value.string ⟨s.toArray⟩ :: Value.int .i64 (items : Nat) :: Value.pointer (some ⟨w.heap.size, 0, none⟩) :: Value.pointer (some ⟨w.heap.size + 1, 0, none⟩) :: undef :: Value.slice none 0 0 :: Value.pointer (some ⟨w.heap.size + 1 + 1 + 1, 0, none⟩) :: Value.pointer (some ⟨w.heap.size + 1 + 1 + 1 + 1, 0, none⟩) :: Value.pointer (some ⟨w.heap.size + 1 + 1 + 1 + 1 + 1, 0, none⟩) :: Value.pointer (some ⟨w.heap.size + 1 + 1 + 1 + 1 + 1 + 1, 0, none⟩) :: Value.int .i64 (x.1.1 : Nat) :: Value.pointer (some ⟨bx, 0, none⟩) :: undef :: undef :: Value.int .i64 (items : Nat) :: Value.slice (some ⟨w.heap.size + 1 + 1, 0, none⟩) items items :: Value.agg #[.int .i64 k, .int .i64 n, .slice a ts.length cap] :: Value.int .i64 (items : Nat) :: Value.func (.func 187) #[] #[Value.pointer (some ⟨w.heap.size + 1 + 1 + 1 + 1 + 1 + 1 + 1 + 1, 0, none⟩), Value.pointer (some ⟨w.heap.size + 1 + 1 + 1 + 1 + 1 + 1 + 1, 0, none⟩)] :: Value.int .i64 (x.1.1 : Nat) :: pv x.1.2.k x.1.2.n x.2 (M.fixedT x.1.2) (wdT x.1.2) :: undef :: undef :: undef :: undef :: undef :: undef :: undef :: undef :: undef :: undef :: undef :: undef :: undef :: undef :: undef :: undef :: undef :: undef :: undef :: undef :: undef :: undef :: undef :: undef :: undef :: undef :: undef :: undef :: undef :: undef :: undef :: undef :: undef :: undef :: undef :: undef :: undef :: undef :: undef :: undef :: undef :: undef :: undef :: undef :: undef :: undef :: undef :: undef :: undef :: undef :: undef :: undef :: undef :: undef :: undef :: undef :: undef :: undef :: undef :: undef :: undef :: undef :: undef :: undef :: undef :: undef :: undef :: undef :: undef :: undef :: undef :: undef :: undef :: undef :: undef :: []), defers := [] } := ⟨_, rfl⟩
  have hkl : ks.length = items := by rw [hks.out]; simp
  refine range_lx (n := 6) (gf := 187) (lb := #[Value.pointer (some ⟨w.heap.size + 1 + 1 + 1 + 1 + 1 + 1 + 1 + 1, 0, none⟩), Value.pointer (some ⟨w.heap.size + 1 + 1 + 1 + 1 + 1 + 1 + 1, 0, none⟩)]) (by omega) rfl (enters_of Tryz.func187 (by kernel_rfl) rfl)
    (encs := encP) (fun x => by obtain ⟨⟨d, ⟨k', n', us'⟩⟩, v⟩ := x; rfl) (CutI A (w.heap.size + 2) (w.heap.size + 4) (w.heap.size + 5) (w.heap.size + 6) items ks s) hIo (fun pre X Y h hg => ⟨h.1, h.2.grow hg (by omega) (by omega) (by omega) (by omega) fun j e => by cases e; exact ⟨by omega, .inl (by omega)⟩⟩) (CutX A (w.heap.size + 2) (w.heap.size + 4) (w.heap.size + 5) (w.heap.size + 6) ks s)
    (fun c => c = A.heap.size + 2) (fun c h => by omega) (AllP ts items) (fun pre x => GoodP w ts items pre x) ?seq hI0 (RGx A w ts items (CutI A (w.heap.size + 2) (w.heap.size + 4) (w.heap.size + 5) (w.heap.size + 6) items ks s) A1) (fun pre x a' => RGx_own hIo pre x a') ?assign ?body ?done ?pan
  case seq =>
    intro l J Jp X hzX hJI hJ hY h0
    have hJR : ∀ pre Y, J pre Y → Gr A Y (fun b => b = w.heap.size + 2 ∨ b = w.heap.size + 4 ∨ b = w.heap.size + 5 ∨ b = w.heap.size + 6) := fun pre Y h => (hJI pre Y h).2.gr
    have HT : PartH w ts items (fun c => c = A.heap.size + 2) (A.heap.size + 2) l (w.heap.size + 7) (w.heap.size + 8) k n (.slice a ts.length cap) J Jp :=
      ⟨hJ, fun pre Y h => Gr.low hbA (hJR pre Y h) (by omega) (fun b e => by omega), fun pre Y h => hA7.ofGr (hJR pre Y h) (by omega) (by omega), fun pre Y h => ((hJR pre Y h).cell (p := ⟨w.heap.size + 8, 0, none⟩) (by simp; omega) (by simp)).trans hA8, rfl, hY⟩
    exact parts_seq w ts items _ _ l _ _ k n a cap J Jp HT _ hL hct hit ht (by omega) X hzX h0
  case assign =>
    rintro l pre ⟨⟨d, ⟨k', n', us'⟩⟩, v⟩ X K hI hz hG hK'
    obtain ⟨ua, uc, hu, _, _⟩ := hG.2.2.2.slice
    replace hu : v = .slice ua us'.length uc := hu
    subst hu
    dsimp only [encP]
    have hAX : RGx A w ts items (CutI A (w.heap.size + 2) (w.heap.size + 4) (w.heap.size + 5) (w.heap.size + 6) items ks s) A1 pre ((d, .mk k' n' us'), .slice ua us'.length uc) (A1 X.heap.size ((d, .mk k' n' us'), .slice ua us'.length uc)) (X.alloc (.cells #[.int .i64 k', .int .i64 n', .slice ua us'.length uc, .bool (M.fixedT (.mk k' n' us')), .int .i64 (wdT (.mk k' n' us') : Nat)] 56)) :=
      ⟨X.heap.size, k', n', us', rfl, hG, rfl, hIo pre _ _ none hI (World.grownBy_alloc _ _ _) (fun r e => by cases e), World.alloc_heap_new X _, hz, by simp⟩
    rw [hA1] at hAX
    gi_wp2
    refine hK' _ _ ((KeepsOthers.alloc X _).from _) (fun c hc _ => Below.heap_alloc _ _ _ (by omega)) ?_
    rw [hA1]
    exact hAX
  case body =>
    rintro l pre ⟨⟨d, ⟨k', n', us'⟩⟩, v⟩ a' B ⟨bx, k2, n2, us2, hx, hG, rfl, hI, hBx, h4, h5⟩
    cases hx
    obtain ⟨ua, uc, hu, _, _⟩ := hG.2.2.2.slice
    replace hu : v = .slice ua us'.length uc := hu
    subst hu
    replace hBx : PBox B bx k' n' (.slice ua us'.length uc) (M.fixedT (.mk k' n' us')) (wdT (.mk k' n' us')) := hBx
    have hlt : d < items := hG.2.1
    have hty : M.Ty.mk k' n' us' = M.tyAt ts d := hG.2.2.1
    have hdl : d = pre.length := hG.1
    have hkd : ks[d]? = some (kdT (.mk k' n' us')) := by
      rw [hks.out, List.getElem?_map, List.getElem?_range hlt, hty]
      rfl
    have hwd := kdT_wd (.mk k' n' us')
    have hsn := M.hd_snoc hkd
    rw [← hwd] at hsn
    have hht := M.hd_take ks (d + 1)
    have hkf : kdT (.mk k' n' us') = if M.fixedT (.mk k' n' us') = true then some (M.sizeT (.mk k' n' us')) else none := rfl
    have hwf : wdT (.mk k' n' us') = if M.fixedT (.mk k' n' us') = true then M.sizeT (.mk k' n' us') else 4 := rfl
    obtain ⟨hq, hRC⟩ := hI
    rw [← hdl] at hq hRC
    have hzB := hRC.gr.size
    have hB1 : Boxed B (w.heap.size + 1) 9 (.string ⟨s.toArray⟩) := Boxed.ofGr hRC.gr hA1s (by omega)
    have hB3 : Boxed B (w.heap.size + 3) 39 (.slice (some ⟨w.heap.size + 2, 0, none⟩) items items) := Boxed.ofGr hRC.gr hA3 (by omega)
    have p3 : B.cell? ⟨bx, 3, none⟩ = some (.bool (M.fixedT (.mk k' n' us'))) := by simp [World.cell?, show B.heap[bx]? = _ from hBx]
    have p4 : B.cell? ⟨bx, 4, none⟩ = some (.int .i64 (wdT (.mk k' n' us') : Nat)) := by simp [World.cell?, show B.heap[bx]? = _ from hBx]
    have y1 := hB1.cell
    have y3 := hB3.cell
    have y4 := hRC.nx.cell
    have hnx2 : Hid (M.hdLen (ks.take (pre ++ [((d, M.Ty.mk k' n' us'), Value.slice ua us'.length uc)]).length) = M.hdLen (ks.take d) + wdT (.mk k' n' us')) := by show _ = _; rw [List.length_append, ← hdl]; exact hsn
    have HPL : Hid ((pre ++ [((d, M.Ty.mk k' n' us'), Value.slice ua us'.length uc)]).length = d + 1) := by show _ = _; rw [List.length_append, ← hdl]; rfl
    have HCB : Hid (M.cutB s ks d = (s.drop (M.hdLen (ks.take d))).take (wdT (.mk k' n' us'))) := by show _ = _; unfold M.cutB; rw [hkd, hwd]; rfl
    have HKD := Lib.hid hkd
    have HKF := Lib.hid hkf
    have HHT : Hid (M.hdLen (ks.take d) + wdT (.mk k' n' us') ≤ M.hdLen ks) := by show _ ≤ _; omega
    have HW4 := Lib.hid hwf
    have HRC := Lib.hid hRC
    have HB1 := Lib.hid hB1
    have HB3 := Lib.hid hB3
    have HBX := Lib.hid hBx
    have HDL := Lib.hid hdl
    rw [hA1]
    dsimp only [M.Ty.k, M.Ty.n]
    generalize wdT (.mk k' n' us') = wd at *
    generalize M.fixedT (.mk k' n' us') = fx at *
    generalize hqe : M.hdLen (ks.take d) = q at *
    have HQE := Lib.hid hqe
    clear hqe
    have hzA1 : w.heap.size + 9 ≤ A.heap.size := by omega
    have hzA2 : A.heap.size ≤ w.heap.size + 9 := by omega
    clear hzA
    have hd9 : d < 6000 := by omega
    clear hkd hwd hsn hht hkf hwf hA1 hRC hB1 hB3 hBx hdl hG hIo hI0 hR0 hL hct ht hA7 hA8 hA1s hA3 hty
    have mixed : Tryz.prog.follows .mixedOrders = true := by kernel_rfl
    by_cases hle : q + wd ≤ s.length
    case neg =>
      have HN := Lib.hid (need_any false 2)
      have hle' : ¬ ((wd : Int) ≤ s.length - q) := by omega
      gi_wp2_with fail
      refine ⟨trivial, CallsIn.inRound l ((callsIn_wide.2 (HN.out B)).mono ?_)⟩
      rintro e X ⟨rfl, hX⟩
      obtain rfl : B = X := hX.symm
      exact ⟨rfl, KeepsFrom.refl _ _, rfl, by have := HHT.out; omega, HRC.out.gr⟩
    obtain ⟨r, hr⟩ : ∃ r, q + wd = r := ⟨_, rfl⟩
    have hsl : ∀ Y : World, (Instr.slice 9 (.string ⟨s.toArray⟩) (some (.int .i64 (q : Nat))) (some (.int .i64 (r : Nat))) none).run Tryz.prog Y = .ok (.string ⟨(M.cutB s ks d).toArray⟩) Y := fun Y => by
      rw [slice_str s q r (by omega) (by omega) Y, cutS, HCB.out, ← hr, List.drop_take, Nat.add_sub_cancel_left]
    have HR := Lib.hid hr
    have hr9 : r ≤ s.length := by omega
    have hri : (q : Int) + wd = (r : Int) := by omega
    have HN := Lib.hid (need_any true 2)
    clear hr
    gi_wp2_with fail
    try rw [show decide ((wd : Int) ≤ (s.length : Int) - q) = true from decide_eq_true (by omega)]
    refine ⟨trivial, CallsIn.inRound l ((callsIn_wide.2 (HN.out B)).mono ?_)⟩
    rintro e X ⟨rfl, hX⟩
    obtain rfl : B = X := hX.symm
    have hcell := HRC.out.row.1 d hlt
    have hfrz := HRC.out.row.2 d hlt
    have hbx := (Array.getElem?_eq_some_iff.1 (show B.heap[bx]? = _ from HBX.out)).1
    gi_wp2_with fail
    refine region_roundH (S := fun Y => Y.cell? ⟨w.heap.size + 3, 0, none⟩ = some (.slice (some ⟨w.heap.size + 2, 0, none⟩) items items) ∧ Y.cell? ⟨w.heap.size + 1, 0, none⟩ = some (.string ⟨s.toArray⟩) ∧ Y.cell? ⟨w.heap.size + 4, 0, none⟩ = some (.int .i64 (q : Nat)) ∧ Y.cell? ⟨bx, 4, none⟩ = some (.int .i64 (wd : Nat))) (by rintro ⟨_, _, h⟩; exact h) mixed (by kernel_rfl) ?_
    have hS0 : (fun Y : World => Y.cell? ⟨w.heap.size + 3, 0, none⟩ = some (.slice (some ⟨w.heap.size + 2, 0, none⟩) items items) ∧ Y.cell? ⟨w.heap.size + 1, 0, none⟩ = some (.string ⟨s.toArray⟩) ∧ Y.cell? ⟨w.heap.size + 4, 0, none⟩ = some (.int .i64 (q : Nat)) ∧ Y.cell? ⟨bx, 4, none⟩ = some (.int .i64 (wd : Nat))) B.drew := ⟨y3, y1, y4, p4⟩
    rw [show Array.replicate (Array.size _) false = #[false, false, false, false, false, false, false, false, false, false, false] from rfl, show Array.size (α := Oper) _ = 11 from rfl]
    refine wpAnyH_take (i := 0) (v := .slice (some ⟨w.heap.size + 2, 0, none⟩) items items) rfl (by kernel_rfl) (by kernel_rfl) (by kernel_rfl) (fun _ _ _ h => h) (Or.inl ⟨by rfl, ?_⟩) hS0 ?_
    · rintro Y ⟨z3, z1, z4, zw⟩
      go_simp
    simp only [Act.put, List.getElem_toArray, List.getElem_cons_zero, List.setIfInBounds_toArray, List.set_cons_zero, List.set_cons_succ]
    refine wpAnyH_take (i := 1) (v := .int .i64 (d : Nat)) rfl (by kernel_rfl) (by kernel_rfl) (by kernel_rfl) (fun _ _ _ h => h) (Or.inl ⟨by rfl, ?_⟩) hS0 ?_
    · rintro Y ⟨z3, z1, z4, zw⟩
      go_simp
    simp only [Act.put, List.getElem_toArray, List.getElem_cons_succ, List.getElem_cons_zero, List.setIfInBounds_toArray, List.set_cons_zero, List.set_cons_succ]
    refine wpAnyH_take (i := 2) (v := .string ⟨s.toArray⟩) rfl (by kernel_rfl) (by kernel_rfl) (by kernel_rfl) (fun _ _ _ h => h) (Or.inl ⟨by rfl, ?_⟩) hS0 ?_
    · rintro Y ⟨z3, z1, z4, zw⟩
      go_simp
    simp only [Act.put, List.getElem_toArray, List.getElem_cons_succ, List.getElem_cons_zero, List.setIfInBounds_toArray, List.set_cons_zero, List.set_cons_succ]
    refine wpAnyH_take (i := 3) (v := .int .i64 (q : Nat)) rfl (by kernel_rfl) (by kernel_rfl) (by kernel_rfl) (fun _ _ _ h => h) (Or.inl ⟨by rfl, ?_⟩) hS0 ?_
    · rintro Y ⟨z3, z1, z4, zw⟩
      go_simp
    simp only [Act.put, List.getElem_toArray, List.getElem_cons_succ, List.getElem_cons_zero, List.setIfInBounds_toArray, List.set_cons_zero, List.set_cons_succ]
    refine wpAnyH_take (i := 4) (v := .int .i64 (q : Nat)) rfl (by kernel_rfl) (by kernel_rfl) (by kernel_rfl) (fun _ _ _ h => h) (Or.inl ⟨by rfl, ?_⟩) hS0 ?_
    · rintro Y ⟨z3, z1, z4, zw⟩
      go_simp
    simp only [Act.put, List.getElem_toArray, List.getElem_cons_succ, List.getElem_cons_zero, List.setIfInBounds_toArray, List.set_cons_zero, List.set_cons_succ]
    refine wpAnyH_take (i := 5) (v := .pointer (some ⟨bx, 4, none⟩)) rfl (by kernel_rfl) (by kernel_rfl) (by kernel_rfl) (fun _ _ _ h => h) (Or.inl ⟨by rfl, ?_⟩) hS0 ?_
    · rintro Y ⟨z3, z1, z4, zw⟩
      go_simp
    simp only [Act.put, List.getElem_toArray, List.getElem_cons_succ, List.getElem_cons_zero, List.setIfInBounds_toArray, List.set_cons_zero, List.set_cons_succ]
    refine wpAnyH_take (i := 6) (v := .int .i64 (wd : Nat)) rfl (by kernel_rfl) (by kernel_rfl) (by kernel_rfl) (fun _ _ _ h => h) (Or.inl ⟨by rfl, ?_⟩) hS0 ?_
    · rintro Y ⟨z3, z1, z4, zw⟩
      go_simp
    simp only [Act.put, List.getElem_toArray, List.getElem_cons_succ, List.getElem_cons_zero, List.setIfInBounds_toArray, List.set_cons_zero, List.set_cons_succ]
    refine wpAnyH_take (i := 7) (v := .int .i64 (r : Nat)) rfl (by kernel_rfl) (by kernel_rfl) (by kernel_rfl) (fun _ _ _ h => h) (Or.inl ⟨by rfl, ?_⟩) hS0 ?_
    · rintro Y ⟨z3, z1, z4, zw⟩
      go_simp
      try (rw [IntKind.wrap_i64]; omega)
    simp only [Act.put, List.getElem_toArray, List.getElem_cons_succ, List.getElem_cons_zero, List.setIfInBounds_toArray, List.set_cons_zero, List.set_cons_succ]
    refine wpAnyH_take (i := 8) (v := .string ⟨(M.cutB s ks d).toArray⟩) rfl (by kernel_rfl) (by kernel_rfl) (by kernel_rfl) (fun _ _ _ h => h) (Or.inl ⟨by rfl, ?_⟩) hS0 ?_
    · rintro Y ⟨z3, z1, z4, zw⟩
      go_simp
    simp only [Act.put, List.getElem_toArray, List.getElem_cons_succ, List.getElem_cons_zero, List.setIfInBounds_toArray, List.set_cons_zero, List.set_cons_succ]
    refine wpAnyH_take (i := 9) (v := .pointer (some ⟨w.heap.size + 2, d, none⟩)) rfl (by kernel_rfl) (by kernel_rfl) (by kernel_rfl) (fun _ _ _ h => h) (Or.inl ⟨by rfl, ?_⟩) hS0 ?_
    · rintro Y ⟨z3, z1, z4, zw⟩
      go_simp
    simp only [Act.put, List.getElem_toArray, List.getElem_cons_succ, List.getElem_cons_zero, List.setIfInBounds_toArray, List.set_cons_zero, List.set_cons_succ]
    have hc1 : B.drew.cell? ⟨w.heap.size + 2, d, none⟩ = some (.string ⟨(M.cutT s ks d d).toArray⟩) := hcell
    have hf1 : B.drew.frozen? ⟨w.heap.size + 2, d, none⟩ = false := hfrz
    refine wpAnyH_ready (rs := [10]) (by kernel_rfl) (by simp) ?_
    refine AllReadyH.cons rfl (fun K hK => ?_) AllReadyH.nil
    go_simp
    obtain ⟨W1, hW1⟩ : ∃ W1, (B.setCell ⟨w.heap.size + 2, d, none⟩ (.string ⟨(M.cutB s ks d).toArray⟩)).drew = W1 := ⟨_, rfl⟩
    have hRC1 := (RC.cut (f' := M.cutT s ks (d + 1)) HRC.out (by omega) (by omega) (by omega) (by omega) hlt (M.cutB s ks d) (M.cut_new s ks d) (fun j hj => M.cut_old s ks d j hj)).drew
    rw [hW1] at hRC1
    have hkb : ∀ b, b ≠ w.heap.size + 2 → W1.heap[b]? = B.heap[b]? := fun b hb => by rw [← hW1]; exact Below.heap_setCell _ _ _ _ hb
    have hKO1 : KeepsOthers B W1 := by rw [← hW1]; exact (KeepsOthers.setCell _ _ _).trans (KO_below (Below.drew (Below.refl _ _)))
    have x1 : W1.cell? ⟨w.heap.size + 1, 0, none⟩ = some (.string ⟨s.toArray⟩) := (World.cell?_of_block (hkb (w.heap.size + 1) (by omega))).trans y1
    have x3 : W1.cell? ⟨w.heap.size + 3, 0, none⟩ = some (.slice (some ⟨w.heap.size + 2, 0, none⟩) items items) := (World.cell?_of_block (hkb (w.heap.size + 3) (by omega))).trans y3
    have x4 := hRC1.nx.cell
    have x5 := hRC1.nx.frozen
    have x6 : W1.cell? ⟨bx, 4, none⟩ = some (.int .i64 (wd : Nat)) := (World.cell?_of_block (hkb bx (by omega))).trans p4
    have x7 : W1.cell? ⟨bx, 3, none⟩ = some (.bool fx) := (World.cell?_of_block (hkb bx (by omega))).trans p3
    rw [hW1]
    refine hK.out _ _ ⟨x3, x1, x4, x6⟩ (fun _ => ?_)
    clear hK K hW1 hc1 hf1
    simp only [List.setIfInBounds_toArray, List.set_cons_zero, List.set_cons_succ]
    refine wpAnyH_done (by kernel_rfl) ?_ _
    have hne1 : bx ≠ w.heap.size + 4 := by omega
    have hRC2 := hRC1.next (at' := r) (by omega) (by omega) (by omega) (by omega)
    have HKO := Lib.hid hKO1
    have HKB := Lib.hid hkb
    have HR2 := Lib.hid hRC2
    clear y1 y3 y4 p3 p4 hkb hKO1 hS0 hcell hfrz
    have hsl0 := hsl
    clear hsl hsl0 hRC2
    cases fx with
    | true =>
      gi_wp2_with fail
      have HKF' := HKF.out
      have hkd : ks[d]? = some (some (M.sizeT (.mk k' n' us'))) := by rw [HKD.out, HKF']; rfl
      refine ⟨(HKO.out.trans (KeepsOthers.setCell _ _ _)).from _, fun c hc hT => ?_, ?_⟩
      · subst hT
        exact (Below.heap_setCell _ _ _ _ (by simp only; omega)).trans (HKB.out _ (by omega))
      · unfold CutI
        rw [hnx2.out, HPL.out, HR.out, M.ap_fix hkd, M.offs_fix hkd]
        exact ⟨hr9, HR2.out⟩
    | false =>
      obtain ⟨W2, hW2⟩ : ∃ W2, (W1.setCell ⟨w.heap.size + 1 + 1 + 1 + 1, 0, none⟩ (.int .i64 (r : Nat))).alloc (.cells #[.int .i64 (d : Nat)] 3) = W2 := ⟨_, rfl⟩
      have hs2 : (W1.setCell ⟨w.heap.size + 1 + 1 + 1 + 1, 0, none⟩ (.int .i64 (r : Nat))).heap.size = W1.heap.size := by simp [World.setCell]
      have hRC3 := HR2.out.below (W' := W2) (by rw [← hW2]; exact (Below.refl _ _).alloc (Nat.le_refl _) _) (by omega) (by omega) (by omega) (by omega)
      have hn2 : W2.cell? ⟨W1.heap.size, 0, none⟩ = some (.int .i64 (d : Nat)) := by
        have := World.alloc_heap_new (W1.setCell ⟨w.heap.size + 1 + 1 + 1 + 1, 0, none⟩ (.int .i64 (r : Nat))) (.cells #[.int .i64 (d : Nat)] 3)
        rw [hs2, hW2] at this
        simp [World.cell?, this]
      have hsz1 := hRC1.gr.size
      have hk2 : ∀ b, b < W1.heap.size → b ≠ w.heap.size + 4 → W2.heap[b]? = W1.heap[b]? := fun b hb hne => by rw [← hW2]; exact (Below.heap_alloc _ _ _ (by omega)).trans (Below.heap_setCell _ _ _ _ hne)
      have hz2 : W1.heap.size < W2.heap.size := by rw [← hW2, World.size_alloc, hs2]; omega
      have hKO2 : KeepsOthers B W2 := HKO.out.trans ((KeepsOthers.setCell _ _ _).trans (by rw [← hW2]; exact KeepsOthers.alloc _ _))
      obtain ⟨v1, v2, a1, a2, a3, a4, a5⟩ := hRC3.v
      have y5 : W1.cell? ⟨w.heap.size + 5, 0, none⟩ = some v1 := (World.cell?_of_block (hk2 (w.heap.size + 5) (by omega) (by omega)).symm).trans a1.cell
      have hzW1 := HKO.out.size
      have hW3A : A.heap.size + 3 ≤ W2.heap.size := by omega
      have hap := M.ap_length ks d
      obtain ⟨ap, hapE⟩ : ∃ ap, M.apT ks d = ap := ⟨_, rfl⟩
      rw [hapE] at a3 hap hRC3
      obtain ⟨ap2, hap2⟩ : ∃ ap2, ap ++ [d] = ap2 := ⟨_, rfl⟩
      have HAP2 := Lib.hid hap2
      have HAPE := Lib.hid hapE
      have HW2 := Lib.hid hW2
      have HN2 := Lib.hid hn2
      have HK2 := Lib.hid hk2
      clear hW2 hs2 hn2 hk2 hap2 hapE
      gi_wp2_with (rw [HW2.out]; refine wpListIn_append_one W2 rfl _ _ rfl (A.heap.size + 3) ap d W1.heap.size v1 rfl rfl a3 HN2.out (by omega) (by omega) ?_; intro v' W3 hA3; rw [HAP2.out] at hA3; obtain ⟨va', vc', hv'⟩ := hA3.own.len; subst hv'; have hRG := RC.app1 hRC3.gr hRC3.nx hRC3.row a1 a2 a3 a4 a5 (by omega) (by omega) (by omega) (by omega) (by omega) (by omega) (by omega) hA3; have z3 := Boxed.cell hRG.2.1; have z4 := Boxed.frozen hRG.2.1)
      have hwd4 : wd = 4 := by rw [HW4.out]; rfl
      have hlc : (M.cutB s ks d).length = 4 := by rw [HCB.out, hwd4, List.length_take, List.length_drop]; omega
      have HUN := Lib.hid (fun W => unoffset_any (M.cutB s ks d) W hlc)
      obtain ⟨o, ho⟩ : ∃ o, M.led (M.cutB s ks d) = o := ⟨_, rfl⟩
      rw [ho] at HUN
      have HO := Lib.hid ho
      clear ho
      obtain ⟨W4, hW4⟩ : ∃ W4, W3.setCell ⟨w.heap.size + 1 + 1 + 1 + 1 + 1, 0, none⟩ (.slice va' ap2.length vc') = W4 := ⟨_, rfl⟩
      have hR4 : RC A (w.heap.size + 2) (w.heap.size + 4) (w.heap.size + 5) (w.heap.size + 6) items r ap2 (M.offsT s 0 (ks.take d)) (M.cutT s ks (d + 1)) W4 := by rw [← hW4]; exact hRG.1
      have hK4 : ∀ b, b < A.heap.size + 3 → b ≠ w.heap.size + 5 → W4.heap[b]? = W2.heap[b]? := fun b hb hne => by rw [← hW4]; exact (hRG.2.2 b hb hne).resolve_right (by omega)
      have hKO4 : KeepsOthers B W4 := hKO2.trans ((KO_appI hA3 a3).trans (by rw [← hW4]; exact KeepsOthers.setCell _ _ _))
      have hz4 : W2.heap.size ≤ W4.heap.size := by
        have h1 := hA3.grown.size
        have h2 := (grownBy_setCell' W3 (w.heap.size + 1 + 1 + 1 + 1 + 1) (.slice va' ap2.length vc')).size
        rw [hW4] at h2
        omega
      rw [hW4]
      have e3 : W4.cell? ⟨w.heap.size + 3, 0, none⟩ = some (.slice (some ⟨w.heap.size + 2, 0, none⟩) items items) := (World.cell?_of_block ((hK4 (w.heap.size + 3) (by omega) (by omega)).trans (HK2.out (w.heap.size + 3) (by omega) (by omega)))).trans x3
      have e2 : W4.cell? ⟨w.heap.size + 2, d, none⟩ = some (.string ⟨(M.cutB s ks d).toArray⟩) := by rw [hR4.row.1 d hlt, M.cut_new]
      obtain ⟨w6, hw6⟩ : ∃ w6, W4.drew.alloc (.cells #[.int .i64 (o : Nat)] 3) = w6 := ⟨_, rfl⟩
      have hb6 : Below W4.heap.size W4 w6 := by rw [← hw6]; exact (Below.drew (Below.refl _ _)).alloc (Nat.le_refl _) _
      have hn6 : w6.cell? ⟨W4.heap.size, 0, none⟩ = some (.int .i64 (o : Nat)) := by
        have : w6.heap[W4.heap.size]? = some (.cells #[.int .i64 (o : Nat)] 3 (0, 0)) := by rw [← hw6]; exact World.alloc_heap_new W4.drew (.cells #[.int .i64 (o : Nat)] 3)
        simp [World.cell?, this]
      have hR6 := hR4.below hb6 (by omega) (by omega) (by omega) (by omega)
      obtain ⟨v3, v4, c1, c2, c3, c4, c5⟩ := hR4.v
      have d1 : Boxed w6 (w.heap.size + 5) 137 v3 := (hb6.block _ c1.lt).trans c1
      have d2 : Boxed w6 (w.heap.size + 6) 137 v4 := (hb6.block _ c2.lt).trans c2
      have d3 := c3.from_ hb6
      have d4 := c4.from_ hb6
      have y6 := c2.cell
      have hel : (M.offsT s 0 (ks.take d)).length ≤ 1000000 := by
        rw [M.offs_length]
        have := List.count_le_length (a := none) (l := ks.take d)
        rw [List.length_take] at this
        omega
      have hS4 : (fun Y : World => Y.cell? ⟨w.heap.size + 3, 0, none⟩ = some (.slice (some ⟨w.heap.size + 2, 0, none⟩) items items) ∧ Y.cell? ⟨w.heap.size + 2, d, none⟩ = some (.string ⟨(M.cutB s ks d).toArray⟩)) W4.drew := ⟨e3, e2⟩
      have hS6 : w6.cell? ⟨w.heap.size + 3, 0, none⟩ = some (.slice (some ⟨w.heap.size + 2, 0, none⟩) items items) ∧ w6.cell? ⟨w.heap.size + 2, d, none⟩ = some (.string ⟨(M.cutB s ks d).toArray⟩) := ⟨(hb6.cell (p := ⟨w.heap.size + 3, 0, none⟩) (by simp only; omega)).trans e3, (hb6.cell (p := ⟨w.heap.size + 2, d, none⟩) (by simp only; omega)).trans e2⟩
      obtain ⟨i1, hi1, hiz, his, _⟩ := info_parts Tryz.ofInt
      have hz6 := hb6.size
      have hB6 : A.heap.size + 3 ≤ w6.heap.size := by omega
      have HRG := Lib.hid hRG
      have HW4' := Lib.hid hW4
      clear e3 e2 z3 z4 hW4 hRG
      refine region_roundH (S := fun Y => Y.cell? ⟨w.heap.size + 3, 0, none⟩ = some (.slice (some ⟨w.heap.size + 2, 0, none⟩) items items) ∧ Y.cell? ⟨w.heap.size + 2, d, none⟩ = some (.string ⟨(M.cutB s ks d).toArray⟩)) (by rintro ⟨_, _, h⟩; exact h) mixed (by kernel_rfl) ?_
      rw [show Array.replicate (Array.size _) false = #[false, false, false, false, false, false, false, false, false] from rfl, show Array.size (α := Oper) _ = 9 from rfl]
      refine wpAnyH_take (i := 1) (v := .slice (some ⟨w.heap.size + 2, 0, none⟩) items items) rfl (by kernel_rfl) (by kernel_rfl) (by kernel_rfl) (fun _ _ _ h => h) (Or.inl ⟨by rfl, ?_⟩) hS4 ?_
      · rintro Y ⟨z3, z2⟩
        go_simp
      simp only [Act.put, List.getElem_toArray, List.getElem_cons_succ, List.getElem_cons_zero, List.setIfInBounds_toArray, List.set_cons_zero, List.set_cons_succ]
      refine wpAnyH_take (i := 2) (v := .int .i64 (d : Nat)) rfl (by kernel_rfl) (by kernel_rfl) (by kernel_rfl) (fun _ _ _ h => h) (Or.inl ⟨by rfl, ?_⟩) hS4 ?_
      · rintro Y ⟨z3, z2⟩
        go_simp
      simp only [Act.put, List.getElem_toArray, List.getElem_cons_succ, List.getElem_cons_zero, List.setIfInBounds_toArray, List.set_cons_zero, List.set_cons_succ]
      refine wpAnyH_take (i := 3) (v := .pointer (some ⟨w.heap.size + 2, d, none⟩)) rfl (by kernel_rfl) (by kernel_rfl) (by kernel_rfl) (fun _ _ _ h => h) (Or.inl ⟨by rfl, ?_⟩) hS4 ?_
      · rintro Y ⟨z3, z2⟩
        go_simp
      simp only [Act.put, List.getElem_toArray, List.getElem_cons_succ, List.getElem_cons_zero, List.setIfInBounds_toArray, List.set_cons_zero, List.set_cons_succ]
      refine wpAnyH_take (i := 4) (v := .string ⟨(M.cutB s ks d).toArray⟩) rfl (by kernel_rfl) (by kernel_rfl) (by kernel_rfl) (fun _ _ _ h => h) (Or.inl ⟨by rfl, ?_⟩) hS4 ?_
      · rintro Y ⟨z3, z2⟩
        go_simp
      simp only [Act.put, List.getElem_toArray, List.getElem_cons_succ, List.getElem_cons_zero, List.setIfInBounds_toArray, List.set_cons_zero, List.set_cons_succ]
      refine wpAnyH_ready (rs := [0, 5]) (by kernel_rfl) (by simp) ?_
      refine AllReadyH.cons rfl (fun K hK => ?rA) (AllReadyH.cons rfl (fun K hK => ?rB) AllReadyH.nil)
      case' rA =>
        go_simp
        refine hK.out _ _ hS4 (fun _ => ?_)
        clear hK K
        simp only [List.setIfInBounds_toArray, List.set_cons_zero]
        refine wpAnyH_ready (rs := [5]) (by kernel_rfl) (by simp) ?_
        refine AllReadyH.cons rfl (fun K hK => ?_) AllReadyH.nil
        go_simp
        refine (HUN.out _).mono ?_
        rintro e X ⟨rfl, hX⟩
        replace hX : X = W4.drew := hX
        subst hX
        try go_wp2_with fail
        refine hK.out _ _ hS4 (fun _ => ?_)
        clear hK K
        simp only [List.setIfInBounds_toArray, List.set_cons_zero, List.set_cons_succ]
        refine wpAnyH_ready (rs := [6]) (by kernel_rfl) (by simp) ?_
        refine AllReadyH.cons rfl (fun K hK => ?_) AllReadyH.nil
        rw [if_pos (by rfl)]
        refine wp_build_one 137 3 (.tmp 56) (.int .i64 (o : Nat)) (.int .i64 0) i1 rfl rfl rfl Tryz.underlying137 hi1 hiz his rfl ?_
        rw [hw6]
        refine hK.out _ _ hS6 (fun _ => ?_)
        clear hK K
        simp only [Act.put, List.getElem_toArray, List.getElem_cons_succ, List.getElem_cons_zero, List.setIfInBounds_toArray, List.set_cons_zero, List.set_cons_succ]
        skip
      case' rB =>
        go_simp
        refine (HUN.out _).mono ?_
        rintro e X ⟨rfl, hX⟩
        replace hX : X = W4.drew := hX
        subst hX
        try go_wp2_with fail
        refine hK.out _ _ hS4 (fun _ => ?_)
        clear hK K
        simp only [List.setIfInBounds_toArray, List.set_cons_zero, List.set_cons_succ]
        refine wpAnyH_ready (rs := [0, 6]) (by kernel_rfl) (by simp) ?_
        refine AllReadyH.cons rfl (fun K hK => ?rC) (AllReadyH.cons rfl (fun K hK => ?rD) AllReadyH.nil)
      case' rC =>
        go_simp
        refine hK.out _ _ hS4 (fun _ => ?_)
        clear hK K
        simp only [List.setIfInBounds_toArray, List.set_cons_zero]
        refine wpAnyH_ready (rs := [6]) (by kernel_rfl) (by simp) ?_
        refine AllReadyH.cons rfl (fun K hK => ?_) AllReadyH.nil
        rw [if_pos (by rfl)]
        refine wp_build_one 137 3 (.tmp 56) (.int .i64 (o : Nat)) (.int .i64 0) i1 rfl rfl rfl Tryz.underlying137 hi1 hiz his rfl ?_
        rw [hw6]
        refine hK.out _ _ hS6 (fun _ => ?_)
        clear hK K
        simp only [Act.put, List.getElem_toArray, List.getElem_cons_succ, List.getElem_cons_zero, List.setIfInBounds_toArray, List.set_cons_zero, List.set_cons_succ]
        skip
      case' rD =>
        rw [if_pos (by rfl)]
        refine wp_build_one 137 3 (.tmp 56) (.int .i64 (o : Nat)) (.int .i64 0) i1 rfl rfl rfl Tryz.underlying137 hi1 hiz his rfl ?_
        rw [hw6]
        refine hK.out _ _ hS6 (fun _ => ?_)
        clear hK K
        simp only [Act.put, List.getElem_toArray, List.getElem_cons_succ, List.getElem_cons_zero, List.setIfInBounds_toArray, List.set_cons_zero, List.set_cons_succ]
        refine wpAnyH_ready (rs := [0]) (by kernel_rfl) (by simp) ?_
        refine AllReadyH.cons rfl (fun K hK => ?_) AllReadyH.nil
        have y7 := d2.cell
        go_simp
        refine hK.out _ _ hS6 (fun _ => ?_)
        clear hK K
        simp only [List.setIfInBounds_toArray, List.set_cons_zero]
        clear y7
      all_goals
        refine wpAnyH_ready (rs := [7]) (by kernel_rfl) (by simp) ?_
        refine AllReadyH.cons rfl (fun K hK => ?_) AllReadyH.nil
        rw [if_pos (by rfl)]
        refine wp_append_one w6 _ _ rfl (A.heap.size + 3) (M.offsT s 0 (ks.take d)) o W4.heap.size v4 rfl rfl d4 hn6 hel hB6 ?_
        intro v'' w7 hA7
        obtain ⟨l7, hl7⟩ : ∃ l7, M.offsT s 0 (ks.take d) ++ [o] = l7 := ⟨_, rfl⟩
        rw [hl7] at hA7
        obtain ⟨va'', vc'', hv''⟩ := hA7.own.len
        subst hv''
        have hRG2 := RC.app2 hR6.gr hR6.nx hR6.row d1 d2 d3 d4 c5 (by omega) (by omega) (by omega) (by omega) (by omega) (by omega) (by omega) hA7
        have hlo : ∀ b, b < A.heap.size + 3 → w7.heap[b]? = w6.heap[b]? := fun b hb => hA7.grown.block b (by omega) (fun e => by have := (d4.lt _ e.symm).1; omega)
        have hS7 : w7.cell? ⟨w.heap.size + 3, 0, none⟩ = some (.slice (some ⟨w.heap.size + 2, 0, none⟩) items items) ∧ w7.cell? ⟨w.heap.size + 2, d, none⟩ = some (.string ⟨(M.cutB s ks d).toArray⟩) := ⟨(World.cell?_of_block (hlo (w.heap.size + 3) (by omega))).trans hS6.1, (World.cell?_of_block (hlo (w.heap.size + 2) (by omega))).trans hS6.2⟩
        have z7 := Boxed.cell hRG2.2.1
        have z8 := Boxed.frozen hRG2.2.1
        refine hK.out _ _ hS7 (fun _ => ?_)
        clear hK K
        simp only [Act.put, List.getElem_toArray, List.getElem_cons_succ, List.getElem_cons_zero, List.setIfInBounds_toArray, List.set_cons_zero, List.set_cons_succ]
        refine wpAnyH_ready (rs := [8]) (by kernel_rfl) (by simp) ?_
        refine AllReadyH.cons rfl (fun K hK => ?_) AllReadyH.nil
        go_simp
        have hS8 : (w7.setCell ⟨w.heap.size + 1 + 1 + 1 + 1 + 1 + 1, 0, none⟩ (.slice va'' l7.length vc'')).cell? ⟨w.heap.size + 3, 0, none⟩ = some (.slice (some ⟨w.heap.size + 2, 0, none⟩) items items) ∧ (w7.setCell ⟨w.heap.size + 1 + 1 + 1 + 1 + 1 + 1, 0, none⟩ (.slice va'' l7.length vc'')).cell? ⟨w.heap.size + 2, d, none⟩ = some (.string ⟨(M.cutB s ks d).toArray⟩) := ⟨(World.cell?_of_block (Below.heap_setCell _ _ _ _ (by simp only; omega))).trans hS7.1, (World.cell?_of_block (Below.heap_setCell _ _ _ _ (by simp only; omega))).trans hS7.2⟩
        refine hK.out _ _ hS8 (fun _ => ?_)
        clear hK K
        simp only [List.setIfInBounds_toArray, List.set_cons_zero, List.set_cons_succ]
        refine wpAnyH_done (by kernel_rfl) ?_ _
        try gi_wp2_with fail
        have hkd : ks[d]? = some none := by rw [HKD.out, HKF.out]; rfl
        have ec : (s.drop q).take 4 = M.cutB s ks d := by rw [HCB.out, hwd4]
        refine ⟨(hKO4.trans ((KO_below hb6).trans ((KO_appI hA7 d4).trans (KeepsOthers.setCell _ _ _)))).from _, fun c hc hT => ?_, ?_⟩
        · subst hT
          exact (Below.heap_setCell _ _ _ _ (by simp only; omega)).trans ((hlo _ (by omega)).trans ((hb6.block _ (by omega)).trans ((hK4 _ (by omega) (by omega)).trans ((HK2.out _ (by omega) (by omega)).trans (HKB.out _ (by omega))))))
        · unfold CutI
          rw [hnx2.out, HPL.out, HR.out, M.ap_off hkd, M.offs_off hkd, HQE.out, HAPE.out, HAP2.out, ec, HO.out, hl7]
          exact ⟨hr9, hRG2.1⟩
  case done =>
    rintro D ys W hD hys hI hKd hWA
    obtain ⟨hq, hRC⟩ := hI
    rw [hys.1, ← hkl, List.take_length] at hq hRC
    have hgr := hRC.gr
    have hbW : Below w.heap.size w W := Gr.low hbA hgr (by omega) (fun b e => by omega)
    have hzW := hgr.size
    have hzA1 : w.heap.size + 9 ≤ A.heap.size := by omega
    have hzA2 : A.heap.size ≤ w.heap.size + 9 := by omega
    have hB1 : Boxed W (w.heap.size + 1) 9 (.string ⟨s.toArray⟩) := Boxed.ofGr hgr hA1s (by omega)
    have hB3 : Boxed W (w.heap.size + 3) 39 (.slice (some ⟨w.heap.size + 2, 0, none⟩) items items) := Boxed.ofGr hgr hA3 (by omega)
    have hWl : W.heap[D]? = some (.deferred (some [])) := hKd
    have hDne : D ≠ w.heap.size + 2 ∧ D ≠ w.heap.size + 4 ∧ D ≠ w.heap.size + 5 ∧ D ≠ w.heap.size + 6 := by omega
    have hbA0 := hbA
    clear hKd hI0 hIo hR0 hA7 hA8 hA1s hA3 hbA hA1 A1 hL hct ht hzA hys
    obtain ⟨v1, v2, a1, a2, a3, a4, a5⟩ := hRC.v
    have y1 := hB1.cell
    have y6 := a2.cell
    have hDl := (Array.getElem?_eq_some_iff.1 hWl).1
    obtain ⟨W2, hW2⟩ : ∃ W2, W.alloc (.cells #[.int .i64 (s.length : Nat)] 3) = W2 := ⟨_, rfl⟩
    have hb2 : Below W.heap.size W W2 := by rw [← hW2]; exact (Below.refl _ _).alloc (Nat.le_refl _) _
    have hn2 : W2.cell? ⟨W.heap.size, 0, none⟩ = some (.int .i64 (s.length : Nat)) := by
      have : W2.heap[W.heap.size]? = some (.cells #[.int .i64 (s.length : Nat)] 3 (0, 0)) := by rw [← hW2]; exact World.alloc_heap_new W _
      simp [World.cell?, this]
    have hz2 : W.heap.size < W2.heap.size := by rw [← hW2]; simp
    have hRC2 := hRC.below hb2 (by omega) (by omega) (by omega) (by omega)
    have d1 : Boxed W2 (w.heap.size + 5) 137 v1 := (hb2.block _ a1.lt).trans a1
    have d2 : Boxed W2 (w.heap.size + 6) 137 v2 := (hb2.block _ a2.lt).trans a2
    have d3 := a3.from_ hb2
    have d4 := a4.from_ hb2
    have hel : (M.offsT s 0 ks).length ≤ 1000000 := by
      rw [M.offs_length]
      have := List.count_le_length (a := none) (l := ks)
      omega
    have hDA : A.heap.size ≤ D := hD
    have hB2 : A.heap.size + 3 ≤ W2.heap.size := by omega
    obtain ⟨EL, hEL⟩ : ∃ EL, M.offsT s 0 ks ++ [s.length] = EL := ⟨_, rfl⟩
    have HEL := Lib.hid hEL
    have HW2 := Lib.hid hW2
    have HN2 := Lib.hid hn2
    clear hW2 hn2 hEL
    gi_wp2_with fail
    refine wpE_then (n := 6) ?_
    gi_wp2_with (rw [HW2.out]; refine wpListIn_append_one W2 rfl _ _ rfl (A.heap.size + 3) (M.offsT s 0 ks) s.length W.heap.size v2 rfl rfl d4 HN2.out hel hB2 ?_; intro v' W3 hA3; rw [HEL.out] at hA3; obtain ⟨va', vc', hv'⟩ := hA3.own.len; subst hv'; have hRG := RC.app2 hRC2.gr hRC2.nx hRC2.row d1 d2 d3 d4 a5 (by omega) (by omega) (by omega) (by omega) (by omega) (by omega) (by omega) hA3; have z3 := Boxed.cell hRG.2.1; have z4 := Boxed.frozen hRG.2.1)
    obtain ⟨W4, hW4⟩ : ∃ W4, W3.setCell ⟨w.heap.size + 1 + 1 + 1 + 1 + 1 + 1, 0, none⟩ (.slice va' EL.length vc') = W4 := ⟨_, rfl⟩
    have hR4 : RC A (w.heap.size + 2) (w.heap.size + 4) (w.heap.size + 5) (w.heap.size + 6) items (M.hdLen ks) (M.apT ks ks.length) EL (M.cutT s ks ks.length) W4 := by
      rw [← hW4]
      have := hRG.1
      rw [hkl] at this ⊢
      exact this
    have hK4 : ∀ b, b < A.heap.size + 3 → b ≠ w.heap.size + 6 → W4.heap[b]? = W2.heap[b]? := fun b hb hne => by rw [← hW4]; exact (hRG.2.2 b hb hne).resolve_right (by omega)
    have hD4 : W4.heap[D]? = some (.deferred (some [])) := by
      rw [← hW4]
      exact (Below.heap_setCell _ _ _ _ (by simp only; omega)).trans ((hA3.grown.block D (by omega) (fun e => absurd e (d4.notCells ((hb2.block _ hDl).trans hWl) rfl))).trans ((hb2.block _ hDl).trans hWl))
    have hbW4 : Below w.heap.size w W4 := Gr.low hbA0 hR4.gr (by omega) (fun b e => by omega)
    rw [hW4]
    obtain ⟨u1, u2, b1, b2, b3, b4, b5⟩ := hR4.v
    have hEl : 0 < EL.length := by rw [← HEL.out]; simp
    have hEl9 : EL.length ≤ 64000 := by rw [← HEL.out, List.length_append, M.offs_length]; have := List.count_le_length (a := none) (l := ks); simp; omega
    obtain ⟨ge, ce, rfl, hge, hgl, hgc⟩ := b4.row hEl
    have hgc' : ∀ j, j < EL.length → W4.cell? ⟨ge, j, none⟩ = some (.int .i64 (EL.getD j 0 : Nat)) := fun j hj => by
      rw [hgc j EL[j] (List.getElem?_eq_getElem hj), List.getD_eq_getElem?_getD, List.getElem?_eq_getElem hj]; rfl
    have hB1' : Boxed W4 (w.heap.size + 1) 9 (.string ⟨s.toArray⟩) := ((hK4 _ (by omega) (by omega)).trans (hb2.block _ hB1.lt)).trans hB1
    have hB3' : Boxed W4 (w.heap.size + 3) 39 (.slice (some ⟨w.heap.size + 2, 0, none⟩) items items) := ((hK4 _ (by omega) (by omega)).trans (hb2.block _ hB3.lt)).trans hB3
    have e0 := hgc' 0 hEl
    have x4 := hR4.nx.cell
    have x6 := b2.cell
    have l4 := hR4.nx.lt
    have l6 := b2.lt
    have mixed : Tryz.prog.follows .mixedOrders = true := by kernel_rfl
    clear z3 z4 hW4 hRG y1 y6
    obtain ⟨RR, hRR⟩ : ∃ RR : Ending → World → Prop, RR = fun e w' => ((M.splitB ks s = none ∧ e = pan 2) ∨ (∃ bs g, M.splitB ks s = some bs ∧ e = .returned (.slice (some ⟨g, 0, none⟩) items items) ∧ w.heap.size ≤ g ∧ g < w'.heap.size ∧ BkS w' g items (fun i => bs.getD i []))) ∧ Below w.heap.size w w' := ⟨_, rfl⟩
    rw [← hRR]
    refine WpE.mono (Q := fun e a' W' => match e with
      | .panic ch => a'.defers = [{ target := .collected D, args := #[] }] ∧ ch = panC 2 ∧ M.splitB ks s = none ∧ Below w.heap.size w W' ∧ W'.heap[D]? = some (.deferred (some []))
      | .ret => bodyPostM Fence.wide 6 Tryz.prog Tryz.f149 RR .ret a' W'
      | _ => False) ?_ ?mono
    case mono =>
      rintro e ⟨tm, df⟩ W' h
      cases e with
      | panic ch =>
        obtain ⟨hdf, rfl, hn, hb, hd⟩ := h
        replace hdf : df = [{ target := .collected D, args := #[] }] := hdf
        subst hdf
        refine ⟨by simp, .inl ⟨_, _, rfl, run_takeDeferred hd, ?_⟩⟩
        have hb1 := belowK_b (w := w) (Nat.le_refl _) W' D _ (.deferred none) (by omega) hd rfl rfl
        rw [hRR]
        exact ⟨.inl ⟨hn, rfl⟩, hb.trans hb1⟩
      | ret => exact h
      | normal => exact h.elim
      | exit _ => exact h.elim
      | goto _ => exact h.elim
      | outgrown => exact h.elim
    have HRR := Lib.hid hRR
    clear hRR
    refine WpE.of (n := 6) (wpIn_wide.2 ?_)
    go_wp2_with fail
    refine wp_region_held (S := fun Y => Below W4.heap.size W4 Y) mixed ?_
    have hS0 : (fun Y => Below W4.heap.size W4 Y) { W4 with drawn := W4.drawn + 1 } := Below.drew (Below.refl _ _)
    rw [show Array.replicate (Array.size _) false = #[false, false, false, false, false, false, false, false, false, false] from rfl, show Array.size (α := Oper) _ = 10 from rfl]
    have hgl' : ge < W4.heap.size := hgl
    have hEp : (0 : Int) < EL.length := by omega
    generalize hh0 : EL.getD 0 0 = h0 at e0
    generalize hdh : M.hdLen ks = hdk at *
    have HH0 := Lib.hid hh0
    have HDH := Lib.hid hdh
    clear hh0 hdh
    refine wpAnyH_take (i := 0) (v := .slice (some ⟨ge, 0, none⟩) EL.length ce) rfl (by kernel_rfl) (by kernel_rfl) (by kernel_rfl) (fun _ _ _ h => h) (Or.inl ⟨by rfl, ?_⟩) hS0 ?_
    · intro Y hY
      have f6 := (hY.cell (p := ⟨w.heap.size + 6, 0, none⟩) l6).trans x6
      go_simp
    simp only [Act.put, List.getElem_toArray, List.getElem_cons_zero, List.setIfInBounds_toArray, List.set_cons_zero, List.set_cons_succ]
    refine wpAnyH_take (i := 1) (v := .pointer (some ⟨ge, 0, none⟩)) rfl (by kernel_rfl) (by kernel_rfl) (by kernel_rfl) (fun _ _ _ h => h) (Or.inl ⟨by rfl, ?_⟩) hS0 ?_
    · intro Y hY
      skip
      go_simp
    simp only [Act.put, List.getElem_toArray, List.getElem_cons_succ, List.getElem_cons_zero, List.setIfInBounds_toArray, List.set_cons_zero, List.set_cons_succ]
    refine wpAnyH_take (i := 2) (v := .int .i64 (h0 : Nat)) rfl (by kernel_rfl) (by kernel_rfl) (by kernel_rfl) (fun _ _ _ h => h) (Or.inl ⟨by rfl, ?_⟩) hS0 ?_
    · intro Y hY
      have f0 := (hY.cell (p := ⟨ge, 0, none⟩) hgl').trans e0
      go_simp
    simp only [Act.put, List.getElem_toArray, List.getElem_cons_succ, List.getElem_cons_zero, List.setIfInBounds_toArray, List.set_cons_zero, List.set_cons_succ]
    refine wpAnyH_take (i := 3) (v := .int .i64 (hdk : Nat)) rfl (by kernel_rfl) (by kernel_rfl) (by kernel_rfl) (fun _ _ _ h => h) (Or.inl ⟨by rfl, ?_⟩) hS0 ?_
    · intro Y hY
      have f4 := (hY.cell (p := ⟨w.heap.size + 4, 0, none⟩) l4).trans x4
      go_simp
    simp only [Act.put, List.getElem_toArray, List.getElem_cons_succ, List.getElem_cons_zero, List.setIfInBounds_toArray, List.set_cons_zero, List.set_cons_succ]
    refine wpAnyH_take (i := 4) (v := .bool (decide (h0 = hdk))) rfl (by kernel_rfl) (by kernel_rfl) (by kernel_rfl) (fun _ _ _ h => h) (Or.inl ⟨by rfl, ?_⟩) hS0 ?_
    · intro Y hY
      skip
      go_simp
      try (rw [Bool.eq_iff_iff]; simp; omega)
    simp only [Act.put, List.getElem_toArray, List.getElem_cons_succ, List.getElem_cons_zero, List.setIfInBounds_toArray, List.set_cons_zero, List.set_cons_succ]
    refine wpAnyH_take (i := 5) (v := .bool (decide (h0 = hdk))) rfl (by kernel_rfl) (by kernel_rfl) (by kernel_rfl) (fun _ _ _ h => h) (Or.inl ⟨by rfl, ?_⟩) hS0 ?_
    · intro Y hY
      skip
      go_simp
    simp only [Act.put, List.getElem_toArray, List.getElem_cons_succ, List.getElem_cons_zero, List.setIfInBounds_toArray, List.set_cons_zero, List.set_cons_succ]
    have hDl4 := (Array.getElem?_eq_some_iff.1 hD4).1
    by_cases hhd : h0 = hdk
    · rw [decide_eq_true hhd]
      have HSO : Hid (∀ Y, Below W4.heap.size W4 Y → Calls Tryz.prog 186 #[.slice (some ⟨ge, 0, none⟩) EL.length ce] Y fun e w' => e = .returned (.bool ((List.range (EL.length - 1)).all fun i => decide (EL.getD i 0 ≤ EL.getD (i + 1) 0))) ∧ Below Y.heap.size Y w') := fun Y hY =>
        sorted_any (fun i => EL.getD i 0) ge EL.length ce Y hEl hEl9 (Nat.lt_of_lt_of_le hgl hY.size) (fun j hj => (hY.cell (p := ⟨ge, j, none⟩) hgl).trans (hgc' j hj))
      obtain ⟨bs, hbs⟩ : ∃ bs, ((List.range (EL.length - 1)).all fun i => decide (EL.getD i 0 ≤ EL.getD (i + 1) 0)) = bs := ⟨_, rfl⟩
      rw [hbs] at HSO
      have hok : M.okRow ks s = bs := by
        rw [M.ok_row, HEL.out, HH0.out, HDH.out, decide_eq_true hhd, decide_eq_true hq, Bool.true_and, Bool.true_and]
        exact hbs
      have HOK := Lib.hid hok
      have HBS := Lib.hid hbs
      clear hok hbs
      refine wpAnyH_ready (rs := [6]) (by kernel_rfl) (by simp) ?_
      refine AllReadyH.cons rfl (fun K hK => ?_) AllReadyH.nil
      rw [if_pos (by simp [Region.wanted, yielded])]
      have f6 : W4.cell? ⟨w.heap.size + 1 + 1 + 1 + 1 + 1 + 1, 0, none⟩ = some (.slice (some ⟨ge, 0, none⟩) EL.length ce) := x6
      go_simp
      refine hK.out _ _ hS0 (fun _ => ?_)
      clear hK K
      simp only [List.setIfInBounds_toArray, List.set_cons_zero, List.set_cons_succ]
      refine wpAnyH_ready (rs := [7]) (by kernel_rfl) (by simp) ?_
      refine AllReadyH.cons rfl (fun K hK => ?_) AllReadyH.nil
      rw [if_pos (by simp [Region.wanted, yielded])]
      go_simp
      refine (HSO.out _ hS0).mono ?_
      rintro e w5 ⟨rfl, hb5⟩
      have hS5 : Below W4.heap.size W4 w5 := hS0.trans (hb5.mono (Nat.le_refl _))
      try go_wp2_with fail
      refine hK.out _ _ hS5 (fun _ => ?_)
      clear hK K hb5
      simp only [List.setIfInBounds_toArray, List.set_cons_zero, List.set_cons_succ]
      refine wpAnyH_ready (rs := [8]) (by kernel_rfl) (by simp) ?_
      refine AllReadyH.cons rfl (fun K hK => ?_) AllReadyH.nil
      go_simp
      refine hK.out _ _ hS5 (fun _ => ?_)
      clear hK K
      simp only [List.setIfInBounds_toArray, List.set_cons_zero, List.set_cons_succ]
      refine wpAnyH_ready (rs := [9]) (by kernel_rfl) (by simp) ?_
      refine AllReadyH.cons rfl (fun K hK => ?_) AllReadyH.nil
      go_simp
      refine (need_any bs 2 _).mono ?_
      rintro e X ⟨rfl, hX⟩
      obtain rfl : w5 = X := hX.symm
      cases bs with
      | false =>
        exact ⟨rfl, rfl, by unfold M.splitB; rw [HOK.out]; simp, hbW4.trans (Below.mono hS5 hbW4.size), (hS5.block D hDl4).trans hD4⟩
      | true =>
        rw [if_pos rfl]
        try go_wp2_with fail
        refine hK.out _ _ hS5 (fun _ => ?_)
        clear hK K
        simp only [List.setIfInBounds_toArray, List.set_cons_zero, List.set_cons_succ]
        refine wpAnyH_done (by kernel_rfl) ?_ _
        have hsp : M.splitB ks s = some (M.partsT s 0 ks (M.offsT s 0 ks)) := by unfold M.splitB; rw [HOK.out, if_pos rfl]
        have hz5 := hS5.size
        have hR5 := hR4.below hS5 (by omega) (by omega) (by omega) (by omega)
        have hbw5 : Below w.heap.size w w5 := hbW4.trans (Below.mono hS5 hbW4.size)
        have hD5 := (hS5.block D hDl4).trans hD4
        have hDl5 : D < w5.heap.size := by omega
        obtain ⟨ap, hap⟩ : ∃ ap, M.apT ks ks.length = ap := ⟨_, rfl⟩
        have hapl : ap.length + 1 = EL.length := by rw [← hap, M.ap_count ks ks.length (Nat.le_refl _), List.take_length, ← HEL.out, List.length_append, M.offs_length]; rfl
        rw [hap] at b3
        have HAP := Lib.hid hap
        obtain ⟨ua, uc, rfl⟩ := b3.len
        have B1 : Boxed w5 (w.heap.size + 1) 9 (.string ⟨s.toArray⟩) := (hS5.block _ hB1'.lt).trans hB1'
        have B3 : Boxed w5 (w.heap.size + 3) 39 (.slice (some ⟨w.heap.size + 2, 0, none⟩) items items) := (hS5.block _ hB3'.lt).trans hB3'
        have B5 : Boxed w5 (w.heap.size + 5) 137 (.slice ua ap.length uc) := (hS5.block _ b1.lt).trans b1
        have B6 : Boxed w5 (w.heap.size + 6) 137 (.slice (some ⟨ge, 0, none⟩) EL.length ce) := (hS5.block _ b2.lt).trans b2
        have x9 := B5.cell
        have hrow5 : BkS w5 (w.heap.size + 2) items (M.cutE s ks 0) := by
          have := hR5.row
          rw [show M.cutE s ks 0 = M.cutT s ks ks.length from funext fun i => M.cutE_zero s ks i]
          exact this
        have hso := (M.all_sorted EL).1 HBS.out
        have HSO2 := Lib.hid hso
        have hall := M.le_last (M.offsT s 0 ks) s.length (by rw [HEL.out]; exact hso)
        rw [HEL.out] at hall
        have HALL := Lib.hid hall
        have HSP := Lib.hid hsp
        have l1 := B1.lt
        have l3 := B3.lt
        have l6' := B6.lt
        have hap9 : ap.length ≤ 64000 := by omega
        clear hso hall hsp hap e0 x4 x6 f6
        go_wp2_with fail
        go_loopw [76] (fun i wr => ∃ j : Nat, j ≤ ap.length ∧ i = .int .i64 (j : Nat) ∧ BkS wr (w.heap.size + 2) items (M.cutE s ks j) ∧ (∀ b, b < w5.heap.size → b ≠ w.heap.size + 2 → wr.heap[b]? = w5.heap[b]?) ∧ w5.heap.size ≤ wr.heap.size ∧ Below w.heap.size w wr) (fun i _ => ap.length - (RowKit.intOf i).toNat)
        case atStart => exact ⟨0, by omega, rfl, hrow5, fun _ _ _ => rfl, Nat.le_refl _, hbw5⟩
        case round =>
          obtain ⟨j, hj, rfl, hrow, hkb, hzr, hbr⟩ := hrel
          by_cases hlt : j < ap.length
          · obtain ⟨i, hi⟩ : ∃ i, ap[j]? = some i := ⟨_, List.getElem?_eq_getElem hlt⟩
            have hig := M.ap_get ks ks.length j i (Nat.le_refl _) (by rw [HAP.out]; exact hi)
            have hil : i < items := by omega
            have hi9 : i < 6000 := by omega
            obtain ⟨ga, ca, hv, hga, hgal, hgac⟩ := b3.row (by omega)
            obtain ⟨rfl, rfl⟩ : ua = some ⟨ga, 0, none⟩ ∧ uc = ca := by cases hv; exact ⟨rfl, rfl⟩
            have c9 : wr.cell? ⟨ga, j, none⟩ = some (.int .i64 (i : Nat)) := (World.cell?_of_block (hkb ga (by omega) (by omega))).trans ((hS5.cell (p := ⟨ga, j, none⟩) hgal).trans (hgac j i hi))
            obtain ⟨p, hp⟩ : ∃ p, EL.getD j 0 = p := ⟨_, rfl⟩
            obtain ⟨r, hr⟩ : ∃ r, EL.getD (j + 1) 0 = r := ⟨_, rfl⟩
            have hcp := hgc' j (by omega)
            have hcr := hgc' (j + 1) (by omega)
            rw [hp] at hcp
            rw [hr] at hcr
            have kp : wr.cell? ⟨ge, j, none⟩ = some (.int .i64 (p : Nat)) := (World.cell?_of_block (hkb ge (by omega) (by omega))).trans ((hS5.cell (p := ⟨ge, j, none⟩) hgl).trans hcp)
            have kr : wr.cell? ⟨ge, j + 1, none⟩ = some (.int .i64 (r : Nat)) := (World.cell?_of_block (hkb ge (by omega) (by omega))).trans ((hS5.cell (p := ⟨ge, j + 1, none⟩) hgl).trans hcr)
            have k1 : wr.cell? ⟨w.heap.size + 1, 0, none⟩ = some (.string ⟨s.toArray⟩) := (World.cell?_of_block (hkb (w.heap.size + 1) (by omega) (by omega))).trans B1.cell
            have k3 : wr.cell? ⟨w.heap.size + 3, 0, none⟩ = some (.slice (some ⟨w.heap.size + 2, 0, none⟩) items items) := (World.cell?_of_block (hkb (w.heap.size + 3) (by omega) (by omega))).trans B3.cell
            have k6 : wr.cell? ⟨w.heap.size + 6, 0, none⟩ = some (.slice (some ⟨ge, 0, none⟩) EL.length ce) := (World.cell?_of_block (hkb (w.heap.size + 6) (by omega) (by omega))).trans B6.cell
            have gp : EL[j]? = some p := by rw [← hp, List.getD_eq_getElem?_getD, List.getElem?_eq_getElem (show j < EL.length by omega)]; rfl
            have gr : EL[j + 1]? = some r := by rw [← hr, List.getD_eq_getElem?_getD, List.getElem?_eq_getElem (show j + 1 < EL.length by omega)]; rfl
            have hpr : p ≤ r := HSO2.out j p r gp gr
            have hrs : r ≤ s.length := HALL.out r (List.mem_of_getElem? gr)
            have hst := M.cutE_step (s := s) (ks := ks) (j := j) (i := i) (by rw [HAP.out]; exact hi)
            rw [HEL.out, hp, hr] at hst
            have hsl : ∀ Y : World, (Instr.slice 9 (.string ⟨s.toArray⟩) (some (.int .i64 (p : Nat))) (some (.int .i64 (r : Nat))) none).run Tryz.prog Y = .ok (.string ⟨((s.drop p).take (r - p)).toArray⟩) Y := fun Y => by
              rw [slice_str s p r hpr hrs Y, cutS, List.drop_take]
            have hcell := hrow.1 i hil
            have hfrz := hrow.2 i hil
            have hj9 : j < 64000 := by omega
            have hje : j + 1 < EL.length := by omega
            have HST := Lib.hid hst
            have HROW := Lib.hid hrow
            have HKB := Lib.hid hkb
            clear hst hrow hkb hcp hcr gp gr hp hr hig hgac hi hv
            go_wp2_with fail
            refine wp_region_held (S := fun Y => Y.cell? ⟨w.heap.size + 3, 0, none⟩ = some (.slice (some ⟨w.heap.size + 2, 0, none⟩) items items) ∧ Y.cell? ⟨w.heap.size + 1, 0, none⟩ = some (.string ⟨s.toArray⟩) ∧ Y.cell? ⟨w.heap.size + 6, 0, none⟩ = some (.slice (some ⟨ge, 0, none⟩) EL.length ce) ∧ Y.cell? ⟨ge, j, none⟩ = some (.int .i64 (p : Nat)) ∧ Y.cell? ⟨ge, j + 1, none⟩ = some (.int .i64 (r : Nat))) mixed ?_
            have hS0' : (fun Y : World => Y.cell? ⟨w.heap.size + 3, 0, none⟩ = some (.slice (some ⟨w.heap.size + 2, 0, none⟩) items items) ∧ Y.cell? ⟨w.heap.size + 1, 0, none⟩ = some (.string ⟨s.toArray⟩) ∧ Y.cell? ⟨w.heap.size + 6, 0, none⟩ = some (.slice (some ⟨ge, 0, none⟩) EL.length ce) ∧ Y.cell? ⟨ge, j, none⟩ = some (.int .i64 (p : Nat)) ∧ Y.cell? ⟨ge, j + 1, none⟩ = some (.int .i64 (r : Nat))) { wr with drawn := wr.drawn + 1 } := ⟨k3, k1, k6, kp, kr⟩
            rw [show Array.replicate (Array.size _) false = #[false, false, false, false, false, false, false, false, false, false, false, false, false, false, false] from rfl, show Array.size (α := Oper) _ = 15 from rfl]
            refine wpAnyH_take (i := 0) (v := .slice (some ⟨w.heap.size + 2, 0, none⟩) items items) rfl (by kernel_rfl) (by kernel_rfl) (by kernel_rfl) (fun _ _ _ h => h) (Or.inl ⟨by rfl, ?_⟩) hS0' ?_
            · rintro Y ⟨z3, z1, z6, zp, zr⟩
              go_simp
            simp only [Act.put, List.getElem_toArray, List.getElem_cons_zero, List.setIfInBounds_toArray, List.set_cons_zero, List.set_cons_succ]
            refine wpAnyH_take (i := 1) (v := .int .i64 (i : Nat)) rfl (by kernel_rfl) (by kernel_rfl) (by kernel_rfl) (fun _ _ _ h => h) (Or.inl ⟨by rfl, ?_⟩) hS0' ?_
            · rintro Y ⟨z3, z1, z6, zp, zr⟩
              go_simp
            simp only [Act.put, List.getElem_toArray, List.getElem_cons_succ, List.getElem_cons_zero, List.setIfInBounds_toArray, List.set_cons_zero, List.set_cons_succ]
            refine wpAnyH_take (i := 2) (v := .string ⟨s.toArray⟩) rfl (by kernel_rfl) (by kernel_rfl) (by kernel_rfl) (fun _ _ _ h => h) (Or.inl ⟨by rfl, ?_⟩) hS0' ?_
            · rintro Y ⟨z3, z1, z6, zp, zr⟩
              go_simp
            simp only [Act.put, List.getElem_toArray, List.getElem_cons_succ, List.getElem_cons_zero, List.setIfInBounds_toArray, List.set_cons_zero, List.set_cons_succ]
            refine wpAnyH_take (i := 3) (v := .slice (some ⟨ge, 0, none⟩) EL.length ce) rfl (by kernel_rfl) (by kernel_rfl) (by kernel_rfl) (fun _ _ _ h => h) (Or.inl ⟨by rfl, ?_⟩) hS0' ?_
            · rintro Y ⟨z3, z1, z6, zp, zr⟩
              go_simp
            simp only [Act.put, List.getElem_toArray, List.getElem_cons_succ, List.getElem_cons_zero, List.setIfInBounds_toArray, List.set_cons_zero, List.set_cons_succ]
            refine wpAnyH_take (i := 4) (v := .int .i64 (j : Nat)) rfl (by kernel_rfl) (by kernel_rfl) (by kernel_rfl) (fun _ _ _ h => h) (Or.inl ⟨by rfl, ?_⟩) hS0' ?_
            · rintro Y ⟨z3, z1, z6, zp, zr⟩
              go_simp
            simp only [Act.put, List.getElem_toArray, List.getElem_cons_succ, List.getElem_cons_zero, List.setIfInBounds_toArray, List.set_cons_zero, List.set_cons_succ]
            refine wpAnyH_take (i := 5) (v := .pointer (some ⟨ge, j, none⟩)) rfl (by kernel_rfl) (by kernel_rfl) (by kernel_rfl) (fun _ _ _ h => h) (Or.inl ⟨by rfl, ?_⟩) hS0' ?_
            · rintro Y ⟨z3, z1, z6, zp, zr⟩
              go_simp
              try (intro hh; exfalso; omega)
            simp only [Act.put, List.getElem_toArray, List.getElem_cons_succ, List.getElem_cons_zero, List.setIfInBounds_toArray, List.set_cons_zero, List.set_cons_succ]
            refine wpAnyH_take (i := 6) (v := .int .i64 (p : Nat)) rfl (by kernel_rfl) (by kernel_rfl) (by kernel_rfl) (fun _ _ _ h => h) (Or.inl ⟨by rfl, ?_⟩) hS0' ?_
            · rintro Y ⟨z3, z1, z6, zp, zr⟩
              go_simp
            simp only [Act.put, List.getElem_toArray, List.getElem_cons_succ, List.getElem_cons_zero, List.setIfInBounds_toArray, List.set_cons_zero, List.set_cons_succ]
            refine wpAnyH_take (i := 7) (v := .slice (some ⟨ge, 0, none⟩) EL.length ce) rfl (by kernel_rfl) (by kernel_rfl) (by kernel_rfl) (fun _ _ _ h => h) (Or.inl ⟨by rfl, ?_⟩) hS0' ?_
            · rintro Y ⟨z3, z1, z6, zp, zr⟩
              go_simp
            simp only [Act.put, List.getElem_toArray, List.getElem_cons_succ, List.getElem_cons_zero, List.setIfInBounds_toArray, List.set_cons_zero, List.set_cons_succ]
            refine wpAnyH_take (i := 8) (v := .int .i64 (j : Nat)) rfl (by kernel_rfl) (by kernel_rfl) (by kernel_rfl) (fun _ _ _ h => h) (Or.inl ⟨by rfl, ?_⟩) hS0' ?_
            · rintro Y ⟨z3, z1, z6, zp, zr⟩
              go_simp
            simp only [Act.put, List.getElem_toArray, List.getElem_cons_succ, List.getElem_cons_zero, List.setIfInBounds_toArray, List.set_cons_zero, List.set_cons_succ]
            refine wpAnyH_take (i := 9) (v := .int .i64 ((j : Int) + 1)) rfl (by kernel_rfl) (by kernel_rfl) (by kernel_rfl) (fun _ _ _ h => h) (Or.inl ⟨by rfl, ?_⟩) hS0' ?_
            · rintro Y ⟨z3, z1, z6, zp, zr⟩
              go_simp
              try (rw [IntKind.wrap_i64]; omega)
            simp only [Act.put, List.getElem_toArray, List.getElem_cons_succ, List.getElem_cons_zero, List.setIfInBounds_toArray, List.set_cons_zero, List.set_cons_succ]
            refine wpAnyH_take (i := 10) (v := .pointer (some ⟨ge, j + 1, none⟩)) rfl (by kernel_rfl) (by kernel_rfl) (by kernel_rfl) (fun _ _ _ h => h) (Or.inl ⟨by rfl, ?_⟩) hS0' ?_
            · rintro Y ⟨z3, z1, z6, zp, zr⟩
              go_simp
              try (intro hh; exfalso; omega)
            simp only [Act.put, List.getElem_toArray, List.getElem_cons_succ, List.getElem_cons_zero, List.setIfInBounds_toArray, List.set_cons_zero, List.set_cons_succ]
            refine wpAnyH_take (i := 11) (v := .int .i64 (r : Nat)) rfl (by kernel_rfl) (by kernel_rfl) (by kernel_rfl) (fun _ _ _ h => h) (Or.inl ⟨by rfl, ?_⟩) hS0' ?_
            · rintro Y ⟨z3, z1, z6, zp, zr⟩
              go_simp
            simp only [Act.put, List.getElem_toArray, List.getElem_cons_succ, List.getElem_cons_zero, List.setIfInBounds_toArray, List.set_cons_zero, List.set_cons_succ]
            refine wpAnyH_take (i := 12) (v := .string ⟨((s.drop p).take (r - p)).toArray⟩) rfl (by kernel_rfl) (by kernel_rfl) (by kernel_rfl) (fun _ _ _ h => h) (Or.inl ⟨by rfl, ?_⟩) hS0' ?_
            · rintro Y ⟨z3, z1, z6, zp, zr⟩
              go_simp
            simp only [Act.put, List.getElem_toArray, List.getElem_cons_succ, List.getElem_cons_zero, List.setIfInBounds_toArray, List.set_cons_zero, List.set_cons_succ]
            refine wpAnyH_take (i := 13) (v := .pointer (some ⟨w.heap.size + 2, i, none⟩)) rfl (by kernel_rfl) (by kernel_rfl) (by kernel_rfl) (fun _ _ _ h => h) (Or.inl ⟨by rfl, ?_⟩) hS0' ?_
            · rintro Y ⟨z3, z1, z6, zp, zr⟩
              go_simp
            simp only [Act.put, List.getElem_toArray, List.getElem_cons_succ, List.getElem_cons_zero, List.setIfInBounds_toArray, List.set_cons_zero, List.set_cons_succ]
            refine wpAnyH_ready (rs := [14]) (by kernel_rfl) (by simp) ?_
            refine AllReadyH.cons rfl (fun K hK => ?_) AllReadyH.nil
            go_simp
            obtain ⟨w6, hw6⟩ : ∃ w6, (wr.setCell ⟨w.heap.size + 2, i, none⟩ (.string ⟨((s.drop p).take (r - p)).toArray⟩)).drew = w6 := ⟨_, rfl⟩
            have hk6 : ∀ b, b ≠ w.heap.size + 2 → w6.heap[b]? = wr.heap[b]? := fun b hb => by rw [← hw6]; exact Below.heap_setCell _ _ _ _ hb
            have hrow6 : BkS w6 (w.heap.size + 2) items (M.cutE s ks (j + 1)) := by rw [← hw6]; exact HROW.out.set hil _ HST.out.1 HST.out.2
            have hz6 : wr.heap.size ≤ w6.heap.size := by
              rw [← hw6]
              show wr.heap.size ≤ (wr.setCell _ _).heap.size
              simp [World.setCell]
            have hb6 : Below w.heap.size w w6 := by rw [← hw6]; exact (hbr.setCell (by simp only; omega) _).drew
            try rw [hw6]

            refine hK.out _ _ ⟨(World.cell?_of_block (hk6 (w.heap.size + 3) (by omega))).trans k3, (World.cell?_of_block (hk6 (w.heap.size + 1) (by omega))).trans k1, (World.cell?_of_block (hk6 (w.heap.size + 6) (by omega))).trans k6, (World.cell?_of_block (hk6 ge (by omega))).trans kp, (World.cell?_of_block (hk6 ge (by omega))).trans kr⟩ (fun _ => ?_)
            clear hK K
            simp only [List.setIfInBounds_toArray, List.set_cons_zero, List.set_cons_succ]
            refine wpAnyH_done (by kernel_rfl) ?_ _
            go_wp2_with fail
            exact ⟨⟨j + 1, by omega, by simp, hrow6, fun b h1 h2 => (hk6 b h2).trans (HKB.out b h1 h2), by omega, hb6⟩, by simp [RowKit.intOf]; omega⟩
          · obtain rfl : j = ap.length := by omega
            have k3 : wr.cell? ⟨w.heap.size + 3, 0, none⟩ = some (.slice (some ⟨w.heap.size + 2, 0, none⟩) items items) := (World.cell?_of_block (hkb (w.heap.size + 3) (by omega) (by omega))).trans B3.cell
            have hDr : wr.heap[D]? = some (.deferred (some [])) := (hkb D hDl5 (by omega)).trans hD5
            have HROW := Lib.hid hrow
            have HKB := Lib.hid hkb
            clear hrow hkb
            go_wp2_with fail

            refine ⟨by simp, .inl ⟨_, _, rfl, run_takeDeferred hDr, ?_⟩⟩
            have hb1 := belowK_b (w := w) (Nat.le_refl _) wr D _ (.deferred none) (by omega) hDr rfl rfl
            rw [HRR.out]
            refine ⟨.slice (some ⟨w.heap.size + 2, 0, none⟩) items items, ?_, .inr ⟨_, w.heap.size + 2, HSP.out, rfl, by omega, by simp [World.putObj]; omega, ?_⟩, hbr.trans hb1⟩
            · simp [results, Tryz.f149, go_sem]
            · have := HROW.out
              have hp2 : ((wr.putObj D (.deferred none)).heap[w.heap.size + 2]? = wr.heap[w.heap.size + 2]?) := World.putObj_heap_other (by omega)
              refine BkS.block (W := wr) ⟨fun q hq => ?_, this.2⟩ hp2
              rw [this.1 q hq]
              show some (Value.string ⟨(M.cutE s ks ap.length q).toArray⟩) = some (Value.string ⟨((M.partsT s 0 ks (M.offsT s 0 ks)).getD q []).toArray⟩)
              rw [List.getD_eq_getElem?_getD, M.cutE_all s ks (by omega), HAP.out]
              rfl
    · rw [decide_eq_false hhd]
      have hno : M.splitB ks s = none := by
        unfold M.splitB
        rw [M.ok_row, HEL.out, HH0.out, HDH.out, decide_eq_false hhd]
        simp
      refine wpAnyH_ready (rs := [6]) (by kernel_rfl) (by simp) ?_
      refine AllReadyH.cons rfl (fun K hK => ?_) AllReadyH.nil
      rw [if_neg (by simp [Region.wanted, yielded])]
      refine hK.out _ _ hS0 (fun _ => ?_)
      clear hK K
      simp only [Act.put, List.getElem_toArray, List.getElem_cons_succ, List.getElem_cons_zero, List.setIfInBounds_toArray, List.set_cons_zero, List.set_cons_succ]
      refine wpAnyH_ready (rs := [7]) (by kernel_rfl) (by simp) ?_
      refine AllReadyH.cons rfl (fun K hK => ?_) AllReadyH.nil
      rw [if_neg (by simp [Region.wanted, yielded])]
      refine hK.out _ _ hS0 (fun _ => ?_)
      clear hK K
      simp only [Act.put, List.getElem_toArray, List.getElem_cons_succ, List.getElem_cons_zero, List.setIfInBounds_toArray, List.set_cons_zero, List.set_cons_succ]
      refine wpAnyH_ready (rs := [8]) (by kernel_rfl) (by simp) ?_
      refine AllReadyH.cons rfl (fun K hK => ?_) AllReadyH.nil
      go_simp
      refine hK.out _ _ hS0 (fun _ => ?_)
      clear hK K
      simp only [List.setIfInBounds_toArray, List.set_cons_zero, List.set_cons_succ]
      refine wpAnyH_ready (rs := [9]) (by kernel_rfl) (by simp) ?_
      refine AllReadyH.cons rfl (fun K hK => ?_) AllReadyH.nil
      go_simp
      refine (need_any false 2 _).mono ?_
      rintro e X ⟨rfl, hX⟩
      exact ⟨rfl, rfl, hno, by rw [hX]; exact hbW4.trans (Below.mono hS0 hbW4.size), by rw [hX]; exact (hS0.block D hDl4).trans hD4⟩
  case pan =>
    rintro D ch W hD ⟨rfl, hlong, hgr⟩ hKd
    have hbX : Below w.heap.size w W := Gr.low hbA hgr (by omega) (fun b e => by omega)
    have hzX := hgr.size
    have hWl : W.heap[D]? = some (.deferred (some [])) := hKd
    refine ⟨by simp, .inl ⟨_, _, rfl, run_takeDeferred hWl, ?_⟩⟩
    have hb1 := belowK_b (w := w) (Nat.le_refl _) W D _ (.deferred none) (by omega) hWl rfl rfl
    refine ⟨.inl ⟨?_, rfl⟩, hbX.trans hb1⟩
    unfold M.splitB M.okRow
    rw [decide_eq_false (by omega)]
    simp
end Go.Proofs.YtgloapcfmlijlaaGreatDoor
