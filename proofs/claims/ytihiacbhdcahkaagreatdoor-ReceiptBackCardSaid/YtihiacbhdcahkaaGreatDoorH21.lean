/- Package receipt: what a receipt's bytes are, plainly. Package receipt: Encode. -/
import Derived.Test.YtihiacbhdcahkaaGreatDoorH20
namespace Go.Proofs.YtihiacbhdcahkaaGreatDoor
open Go Go.RowKit Go.Lib
namespace M
/-- A receipt's parts; its bytes. -/
def partsR (x : Rc) : List It := [boolI x.st, textI (ben x.gas), listI (x.logs.map logI)] ++ [textI (ben x.nonce), textI (ben 1)].take (formR x)
def headR (k : Int) : List UInt8 := if k = 0 then [] else [UInt8.ofNat k.toNat]
def bytesR (x : Rc) : List UInt8 := headR x.kind ++ bytesI (listI (partsR x))
def encR (x : Rc) : List UInt8 × Nat := if chkR x = 0 then (bytesR x, 0) else ([], chkR x)
theorem chkR_ok {x : Rc} (h : chkR x = 0) : kdB x.kind = true ∧ formedR x = true ∧ longR x = false := by
  unfold chkR at h
  cases h1 : kdB x.kind <;> cases h2 : formedR x <;> cases h3 : longR x <;> simp_all
theorem chkR_zero {x : Rc} (h1 : kdB x.kind = true) (h2 : formedR x = true) (h3 : longR x = false) : chkR x = 0 := by
  unfold chkR
  simp [h1, h2, h3]
theorem kdB_ok {k : Int} (h : kdB k = true) : k = 0 ∨ k = 1 ∨ k = 2 ∨ k = 4 ∨ k = 126 := by
  unfold kdB at h
  simp at h
  omega
theorem chkR_logs {x : Rc} (h : chkR x = 0) : x.logs.length ≤ 16 ∧ ∀ g ∈ x.logs, g.addr.length = 20 ∧ (∀ t ∈ g.topics, t.length = 32) ∧ g.topics.length ≤ 4 ∧ g.data.length ≤ 4096 := by
  obtain ⟨_, h2, h3⟩ := chkR_ok h
  unfold longR at h3
  rw [Bool.or_eq_false_iff] at h3
  unfold formedR at h2
  simp only [Bool.and_eq_true] at h2
  have h4 : x.logs.any noLog = false := by simpa using h2.2.2
  refine ⟨by simpa using h3.1, fun g hg => ?_⟩
  have n1 := List.any_eq_false.1 h4 g hg
  have n2 := List.any_eq_false.1 h3.2 g hg
  unfold noLog at n1
  unfold longLog at n2
  simp at n1 n2
  exact ⟨n1.1, n1.2, by omega, by omega⟩
theorem chkR_short {x : Rc} (h : chkR x = 0) : ∀ g ∈ x.logs, Short g := fun g hg => by
  obtain ⟨h1, h2, h3, h4⟩ := (chkR_logs h).2 g hg
  exact ⟨by omega, h4, by omega, fun s hs => by rw [h2 s hs]; omega⟩
theorem logs_len : ∀ ls : List Lg, (∀ g ∈ ls, Short g) → (bytesIs (ls.map logI)).length ≤ ls.length * 6000
  | [], _ => by simp [bytesIs]
  | g :: ls, h => by
    have h1 := logs_len ls fun x hx => h x (List.mem_cons_of_mem _ hx)
    have h2 := logI_len (h g (by simp))
    rw [List.map_cons, bytesIs, List.length_append, List.length_cons, Nat.add_mul]
    omega
theorem ben_text {n : Nat} (h : n < 18446744073709551616) : (bytesI (textI (ben n))).length ≤ 17 := by
  have := textI_len (s := ben n) (by have := ben_le h; omega)
  have := ben_le h
  omega
theorem bytesIs_app (xs ys : List It) : bytesIs (xs ++ ys) = bytesIs xs ++ bytesIs ys := by
  induction xs with
  | nil => simp [bytesIs]
  | cons z l ih => rw [List.cons_append, bytesIs, bytesIs, ih, List.append_assoc]
theorem parts_len {x : Rc} (h : chkR x = 0) (hg : x.gas < 18446744073709551616) (hn : x.nonce < 18446744073709551616) : (bytesIs (partsR x)).length ≤ 100000 := by
  have h1 := logs_len x.logs (chkR_short h)
  have h0 := (chkR_logs h).1
  have h2 : x.logs.length * 6000 ≤ 16 * 6000 := Nat.mul_le_mul_right _ h0
  have h3 := listI_len (xs := x.logs.map logI) (by omega)
  have h4 := ben_text hg
  have h5 := bytesIs_take [textI (ben x.nonce), textI (ben 1)] (formR x)
  have h6 := ben_text hn
  have h7 := ben_text (n := 1) (by omega)
  have h8 : (bytesI (boolI x.st)).length ≤ 10 := by
    cases x.st
    · exact Nat.le_trans (textI_len (s := []) (by decide)) (by decide)
    · exact Nat.le_trans (textI_len (s := [1]) (by decide)) (by decide)
  unfold partsR
  rw [bytesIs_app]
  simp only [bytesIs, List.length_append, List.length_nil] at h5 ⊢
  omega
end M
theorem Lay.take {w : World} {n : Nat} {xs : List M.It} {b o m cap : Nat} (h : Lay w n xs (.slice (some ⟨b, o, none⟩) m cap)) (k : Nat) (hk : k ≤ xs.length) : Lay w n (xs.take k) (.slice (some ⟨b, o, none⟩) k cap) := by
  cases h with
  | nil_ hm =>
    obtain rfl : k = 0 := by simpa using hk
    exact .nil_ hm
  | row V hb hc hm c0 c1 c2 r =>
    have hat : ∀ i x, (xs.take k)[i]? = some x → xs[i]? = some x := fun i x e => by
      have hi : i < k := by
        have := (List.getElem?_eq_some_iff.1 e).1
        rw [List.length_take] at this
        omega
      rwa [List.getElem?_take_of_lt hi] at e
    have := Lay.row (w := w) (n := n) (xs := xs.take k) (b := b) (o := o) (cap := cap) V hb (by rw [List.length_take]; omega) hm
      (fun i l d ys e => c0 i l d ys (hat i _ e)) (fun i l d ys e => c1 i l d ys (hat i _ e)) (fun i l d ys e => c2 i l d ys (hat i _ e)) (fun i l d ys e => r i l d ys (hat i _ e))
    rwa [List.length_take, Nat.min_eq_left hk] at this
end Go.Proofs.YtihiacbhdcahkaaGreatDoor
namespace Go.Proofs.YtihiacbhdcahkaaGreatDoor
open Go Go.RowKit Go.Lib Go.Shelf
attribute [local go_sem] Oper.semAt_some

theorem M.sp_len {sb : List UInt8} {n : Nat} (hs : sb.length ≤ 1) (hn : n < 18446744073709551616) : ∀ s ∈ [sb, M.ben n], s.length ≤ 100 := fun s h => by
  have := M.ben_le hn
  simp only [List.mem_cons, List.not_mem_nil, or_false] at h
  rcases h with h | h
  · rw [h]; omega
  · rw [h]; omega
theorem M.sm_len {n : Nat} (hn : n < 18446744073709551616) : ∀ s ∈ [M.ben n, M.ben 1], s.length ≤ 100 := fun s h => by
  have := M.ben_le hn
  have := M.ben_le (n := 1) (by omega)
  simp only [List.mem_cons, List.not_mem_nil, or_false] at h
  rcases h with h | h
  · rw [h]; omega
  · rw [h]; omega
theorem M.pl_len {a b : List UInt8} (h : ∀ s ∈ [a, b], s.length ≤ 100) : (M.bytesIs [M.textI a, M.textI b]).length ≤ 1000 := by
  have := M.texts_len 100 (by omega) [a, b] h
  exact Nat.le_trans this (by show 2 * 109 ≤ 1000; decide)
theorem M.rl_len {a b : List UInt8} (f : Nat) (h : ∀ s ∈ [a, b], s.length ≤ 100) : (M.bytesIs (List.take f [M.textI a, M.textI b])).length ≤ 1000 :=
  Nat.le_trans (M.bytesIs_take [M.textI a, M.textI b] f) (M.pl_len h)
theorem M.q_len (l : List UInt8) (h : l.length ≤ 16 * 6000) : (M.hdL l.length 192 ++ l).length ≤ 200000 := by
  have := M.hdL_len (n := l.length) (p := 192) (by omega)
  rw [List.length_append]
  omega
theorem phead_any (k : Int) (w : World) (hk : k = 0 ∨ k = 1 ∨ k = 2 ∨ k = 4 ∨ k = 126) : Calls Tryz.prog 29 #[.int .i64 k] w fun e w' => e = .returned (.string ⟨(M.headR k).toArray⟩) ∧ Below w.heap.size w w' := by
  by_cases h0 : k = 0
  · subst h0
    exact rhead_nil w
  · obtain ⟨n, rfl⟩ : ∃ n : Nat, k = n := ⟨k.toNat, by omega⟩
    have := rhead_any n w (by omega) (by omega)
    have e : M.headR (n : Int) = [UInt8.ofNat n] := by unfold M.headR; rw [if_neg h0]; rfl
    rw [e]
    exact this
theorem M.q_len' (l : List UInt8) (h : l.length ≤ 100000) : (M.hdL l.length 192 ++ l).length ≤ 200000 := by
  have := M.hdL_len (n := l.length) (p := 192) (by omega)
  rw [List.length_append]
  omega
theorem joinedT_any (ts : List (List UInt8)) (a : Option Addr) (cap : Nat) (w : World) (hL : Lay w w.heap.size (ts.map M.textI) (.slice a ts.length cap)) (hl : ts.length ≤ 10) (hs : ∀ s ∈ ts, s.length ≤ 100) :
    Calls Tryz.prog 24 #[.slice a ts.length cap, .func (.func 25) #[] #[]] w fun e w' => e = .returned (.string ⟨(M.bytesIs (ts.map M.textI)).toArray⟩) ∧ Below w.heap.size w w' := by
  have h1 := M.texts_len 100 (by omega) ts hs
  have := joinedI_any (ts.map M.textI) a cap w (by rw [List.length_map]; exact hL) (by rw [List.length_map]; omega) (by omega) (fun l d ys hm => by
    obtain ⟨s, hsm, e⟩ := List.mem_map.1 hm
    unfold M.textI at e
    injection e with e1 e2 e3
    subst e1 e2 e3
    refine ⟨by decide, ?_, by simp [M.formI]⟩
    have h2 := hs s hsm
    have := M.textI_len (s := s) (by omega)
    exact Nat.le_trans this (by omega))
  rw [List.length_map] at this
  exact this
set_option maxRecDepth 100000 in
set_option maxHeartbeats 8000000 in
theorem pencode_any (x : M.Rc) (a : Option Addr) (cap : Nat) (w : World) (hF : FewL x.logs) (hg : x.gas < 18446744073709551616) (hn : x.nonce < 18446744073709551616) (hT : Ls w w.heap.size x.logs (.slice a x.logs.length cap)) :
    Calls Tryz.prog 12 #[rcv x (.slice a x.logs.length cap)] w fun e w' => e = .returned (.tuple #[.string ⟨(M.encR x).1.toArray⟩, .int .i64 ((M.encR x).2 : Nat)]) ∧ Below w.heap.size w w' := by
  have mixed : Tryz.prog.follows .mixedOrders = true := by kernel_rfl
  obtain ⟨w0, hw0⟩ : ∃ w0, w.alloc (.cells #[.int .i64 x.kind, .bool x.st, .int .u64 (x.gas : Nat), .slice a x.logs.length cap, .bool x.full, .int .u64 (x.nonce : Nat), .int .u64 (x.ver : Nat)] 25) = w0 := ⟨_, rfl⟩
  have hb0 : Below w.heap.size w w0 := by rw [← hw0]; exact (Below.refl _ _).alloc (Nat.le_refl _) _
  have hz0 : w0.heap.size = w.heap.size + 1 := by rw [← hw0]; simp
  have hr0 : RcBox w0 w.heap.size x (.slice a x.logs.length cap) := by rw [← hw0]; exact RcBox.new w x _ _
  have HR := Lib.hid (fun W (h : Below w0.heap.size w0 W) => hr0.from_ h (by omega))
  have HCk := Lib.hid (fun W (h : Below w0.heap.size w0 W) => pcheck_any x a cap W hF (hT.kept (hb0.trans (h.mono hb0.size))))
  have HT := Lib.hid (fun W (h : Below w0.heap.size w0 W) => hT.kept (hb0.trans (h.mono hb0.size)))
  have HW := Lib.hid hw0
  have HB := Lib.hid hb0
  clear hw0 hb0 hr0 hz0 hT
  by_cases hc : M.chkR x = 0
  · have hE : M.encR x = (M.bytesR x, 0) := by unfold M.encR; rw [if_pos hc]
    rw [hE]
    rw [hc] at HCk
    have hl16 := (M.chkR_logs hc).1
    have hsh := M.chkR_short hc
    have hkd := M.kdB_ok (M.chkR_ok hc).1
    have HPL := Lib.hid (M.parts_len hc hg hn)
    have HJL := Lib.hid (fun W (h : Below w0.heap.size w0 W) => joinedL_any x.logs a cap W (HT.out W h) (by omega) hsh)
    have hll := M.logs_len x.logs hsh
    have hlm : x.logs.length * 6000 ≤ 16 * 6000 := Nat.mul_le_mul_right _ hl16
    have HLI := Lib.hid (fun W => listed_any (M.bytesIs (x.logs.map M.logI)) W (by omega))
    have HFO := Lib.hid (fun W => form_any x.kind (x.gas : Int) (x.nonce : Int) (x.ver : Int) x.st x.full (.slice a x.logs.length cap) W)
    have hfr : (if x.full then if (x.ver : Int) = 0 then 1 else 2 else 0 : Int) = ((M.formR x : Nat) : Int) := by
      unfold M.formR
      cases x.full
      · rfl
      · by_cases hv : x.ver = 0
        · simp [hv]
        · have : ¬ (x.ver : Int) = 0 := by omega
          simp [hv]
    rw [hfr] at HFO
    have hf2 : M.formR x ≤ 2 := by
      unfold M.formR
      split
      · split <;> omega
      · omega
    have hbR : M.bytesR x = M.headR x.kind ++ (M.hdL (M.bytesIs (M.partsR x)).length 192 ++ M.bytesIs (M.partsR x)) := by unfold M.bytesR M.listI; rw [M.bytesI]
    have hpR : M.bytesIs (M.partsR x) = M.bytesIs [M.boolI x.st, M.textI (M.ben x.gas)] ++ (M.hdL (M.bytesIs (x.logs.map M.logI)).length 192 ++ M.bytesIs (x.logs.map M.logI)) ++ M.bytesIs ([M.textI (M.ben x.nonce), M.textI (M.ben 1)].take (M.formR x)) := by
      unfold M.partsR
      rw [M.bytesIs_app]
      simp only [M.bytesIs, M.listI, M.bytesI, List.append_nil, List.append_assoc]
    have HLP := Lib.hid (fun W => listed_any (M.bytesIs (M.partsR x)) W (by have := HPL.out; omega))
    have HHD := Lib.hid (fun W => phead_any x.kind W hkd)
    have hhl : (M.headR x.kind).length ≤ 1 := by unfold M.headR; split <;> simp
    have HFB := Lib.hid (fun W (_ : Below w0.heap.size w0 W) => field_bool x.st W)
    have HFN := Lib.hid (fun W (_ : Below w0.heap.size w0 W) => field_number x.gas W hg)
    have HFM := Lib.hid (fun W (_ : Below w0.heap.size w0 W) => field_number x.nonce W hn)
    have HF1 := Lib.hid (fun W (_ : Below w0.heap.size w0 W) => field_number 1 W (by omega))
    obtain ⟨i0, hi, hz0, hz1, hz2⟩ := info_parts Tryz.ofItem
    obtain ⟨sb, hsb⟩ : ∃ sb : List UInt8, (if x.st then [1] else []) = sb := ⟨_, rfl⟩
    rw [hsb] at HFB
    have hbi : M.boolI x.st = M.textI sb := by unfold M.boolI; rw [hsb]
    have hsl : sb.length ≤ 1 := by rw [← hsb]; cases x.st <;> decide
    rw [hbi] at hpR
    have HSP := Lib.hid (M.sp_len hsl hg)
    have HSM := Lib.hid (M.sm_len hn)
    have HPLN := Lib.hid (M.pl_len HSP.out)
    have HRLN := Lib.hid (M.rl_len (M.formR x) HSM.out)
    have HQ := Lib.hid (M.q_len (M.bytesIs (x.logs.map M.logI)) (Nat.le_trans hll hlm))
    rw [hbR]
    obtain ⟨own, hown⟩ : ∃ own, M.bytesIs (M.partsR x) = own := ⟨_, rfl⟩
    have hol := M.q_len' own (by rw [← hown]; exact HPL.out)
    rw [hown] at HLP hpR ⊢
    obtain ⟨T, hT⟩ : ∃ T, M.hdL own.length 192 ++ own = T := ⟨_, rfl⟩
    rw [hT] at HLP hol ⊢
    obtain ⟨P, hP⟩ : ∃ P, M.bytesIs [M.textI sb, M.textI (M.ben x.gas)] = P := ⟨_, rfl⟩
    rw [hP] at hpR HPLN
    obtain ⟨L, hL⟩ : ∃ L, M.bytesIs (x.logs.map M.logI) = L := ⟨_, rfl⟩
    rw [hL] at hpR HQ HJL HLI
    obtain ⟨Q, hQ⟩ : ∃ Q, M.hdL L.length 192 ++ L = Q := ⟨_, rfl⟩
    rw [hQ] at hpR HQ HLI
    obtain ⟨f, hf⟩ : ∃ f, M.formR x = f := ⟨_, rfl⟩
    rw [hf] at hpR HFO HRLN hf2
    obtain ⟨R, hR⟩ : ∃ R, M.bytesIs (List.take f [M.textI (M.ben x.nonce), M.textI (M.ben 1)]) = R := ⟨_, rfl⟩
    rw [hR] at hpR HRLN
    have HP := Lib.hid hP
    have HRR := Lib.hid hR
    have HOWN := Lib.hid hpR
    clear hT hown hP hL hQ hf hR hpR hsb hbi hc hE hl16 hsh hll hlm hfr hbR HPL hF
    obtain ⟨k, st, ga, ls, fu, no, ve⟩ := x
    go_enter Tryz.func12, Tryz.ntmps12
    go_wp2_with fail
    rw [HW.out]
    refine (HCk.out _ (Below.refl _ _)).mono ?_
    rintro e w1 ⟨rfl, B1⟩
    go_wp2_with fail
    refine wp_region_held (S := fun Y => Below w0.heap.size w0 Y) mixed ?_
    have hS0 : Below w0.heap.size w0 w1.drew := Below.drew B1
    rw [show Array.replicate (Array.size _) false = #[false, false, false, false, false, false, false, false] from rfl, show Array.size (α := Oper) _ = 8 from rfl]
    refine wpAnyH_take (i := 0) (v := .pointer (some ⟨w.heap.size, 1, none⟩)) rfl (by kernel_rfl) (by kernel_rfl) (by kernel_rfl) (fun _ _ _ h => h) (Or.inl ⟨by rfl, ?_⟩) hS0 ?_
    · intro Y hY
      skip
      go_simp
    simp only [Act.put, List.getElem_toArray, List.getElem_cons_zero, List.setIfInBounds_toArray, List.set_cons_zero, List.set_cons_succ]
    refine wpAnyH_take (i := 1) (v := .bool st) rfl (by kernel_rfl) (by kernel_rfl) (by kernel_rfl) (fun _ _ _ h => h) (Or.inl ⟨by rfl, ?_⟩) hS0 ?_
    · intro Y hY
      obtain ⟨a0, a1, a2, a3, a4, a5, a6⟩ := HR.out _ hY
      go_simp
    simp only [Act.put, List.getElem_toArray, List.getElem_cons_succ, List.getElem_cons_zero, List.setIfInBounds_toArray, List.set_cons_zero, List.set_cons_succ]
    refine wpAnyH_take (i := 3) (v := .pointer (some ⟨w.heap.size, 2, none⟩)) rfl (by kernel_rfl) (by kernel_rfl) (by kernel_rfl) (fun _ _ _ h => h) (Or.inl ⟨by rfl, ?_⟩) hS0 ?_
    · intro Y hY
      skip
      go_simp
    simp only [Act.put, List.getElem_toArray, List.getElem_cons_succ, List.getElem_cons_zero, List.setIfInBounds_toArray, List.set_cons_zero, List.set_cons_succ]
    refine wpAnyH_take (i := 4) (v := .int .u64 (ga : Nat)) rfl (by kernel_rfl) (by kernel_rfl) (by kernel_rfl) (fun _ _ _ h => h) (Or.inl ⟨by rfl, ?_⟩) hS0 ?_
    · intro Y hY
      obtain ⟨a0, a1, a2, a3, a4, a5, a6⟩ := HR.out _ hY
      go_simp
    simp only [Act.put, List.getElem_toArray, List.getElem_cons_succ, List.getElem_cons_zero, List.setIfInBounds_toArray, List.set_cons_zero, List.set_cons_succ]
    refine wpAnyH_ready (rs := [2]) (by kernel_rfl) (by simp) ?_
    refine AllReadyH.cons rfl (fun K hK => ?_) AllReadyH.nil
    go_simp
    refine (HFB.out _ hS0).mono ?_
    rintro e w2 ⟨rfl, hb2⟩
    have hS2 : Below w0.heap.size w0 w2 := hS0.trans (Below.mono hb2 hS0.size)
    try go_wp2_with fail
    refine hK.out _ _ hS2 (fun _ => ?_)
    clear hK K
    simp only [List.setIfInBounds_toArray, List.set_cons_zero, List.set_cons_succ]
    refine wpAnyH_ready (rs := [5]) (by kernel_rfl) (by simp) ?_
    refine AllReadyH.cons rfl (fun K hK => ?_) AllReadyH.nil
    go_simp
    refine (HFN.out _ hS2).mono ?_
    rintro e w3 ⟨rfl, hb3⟩
    have hS3 : Below w0.heap.size w0 w3 := hS2.trans (Below.mono hb3 hS2.size)
    try go_wp2_with fail
    refine hK.out _ _ hS3 (fun _ => ?_)
    clear hK K
    simp only [List.setIfInBounds_toArray, List.set_cons_zero, List.set_cons_succ]
    refine wpAnyH_ready (rs := [6]) (by kernel_rfl) (by simp) ?_
    refine AllReadyH.cons rfl (fun K hK => ?_) AllReadyH.nil
    rw [if_pos (by rfl)]
    refine wp_build_it2 _ _ false false sb (M.ben ga) _ _ i0 rfl rfl rfl hi hz0 hz1 ?_
    obtain ⟨w4, hw4⟩ : ∃ w4, w3.alloc (.cells #[.bool false, .string ⟨sb.toArray⟩, .slice none 0 0, .bool false, .string ⟨(M.ben ga).toArray⟩, .slice none 0 0] 45) = w4 := ⟨_, rfl⟩
    have hb34 : Below w3.heap.size w3 w4 := by rw [← hw4]; exact (Below.refl _ _).alloc (Nat.le_refl _) _
    have hS4 : Below w0.heap.size w0 w4 := hS3.trans (hb34.mono hS3.size)
    have hL4 : Lay w4 w4.heap.size [M.textI sb, M.textI (M.ben ga)] (.slice (some ⟨w3.heap.size, 0, none⟩) 2 2) := by
      have := lay_made w3 [(M.textI sb, .slice none 0 0), (M.textI (M.ben ga), .slice none 0 0)] (by
        intro p hp
        simp only [List.mem_cons, List.not_mem_nil, or_false] at hp
        rcases hp with rfl | rfl
        · exact .nil_ (by decide)
        · exact .nil_ (by decide)) (by show 2 ≤ maxLen; decide)
      rw [← hw4]
      exact this.mono (by simp)
    rw [hw4]
    have HL4 := Lib.hid hL4
    clear hw4 hL4
    refine hK.out _ _ hS4 (fun _ => ?_)
    clear hK K
    simp only [List.setIfInBounds_toArray, List.set_cons_zero, List.set_cons_succ]
    refine wpAnyH_take (i := 7) (v := .slice (some ⟨w3.heap.size, 0, none⟩) 2 2) rfl (by kernel_rfl) (by kernel_rfl) (by kernel_rfl) (fun _ _ _ h => h) (Or.inl ⟨by rfl, ?_⟩) hS4 ?_
    · intro Y hY
      skip
      go_simp
    simp only [Act.put, List.getElem_toArray, List.getElem_cons_succ, List.getElem_cons_zero, List.setIfInBounds_toArray, List.set_cons_zero, List.set_cons_succ]
    refine wpAnyH_done (by kernel_rfl) ?_ _
    clear hb2 hb3
    obtain ⟨a0, a1, a2, a3, a4, a5, a6⟩ := HR.out _ hS4
    go_wp2_with fail
    refine (HFM.out _ hS4).mono ?_
    rintro e w5 ⟨rfl, hb5⟩
    have hS5 := hS4.trans (hb5.mono hS4.size)
    clear a0 a1 a2 a3 a4 a5 a6
    go_wp2_with fail
    refine (HF1.out _ hS5).mono ?_
    rintro e w6 ⟨rfl, hb6⟩
    have hS6 := hS5.trans (hb6.mono hS5.size)
    go_wp2_with fail
    obtain ⟨w7, hw7⟩ : ∃ w7, w6.alloc (.cells #[.bool false, .string ⟨(M.ben no).toArray⟩, .slice none 0 0, .bool false, .string ⟨(M.ben 1).toArray⟩, .slice none 0 0] 45) = w7 := ⟨_, rfl⟩
    have hb67 : Below w6.heap.size w6 w7 := by rw [← hw7]; exact (Below.refl _ _).alloc (Nat.le_refl _) _
    have hS7 : Below w0.heap.size w0 w7 := hS6.trans (hb67.mono hS6.size)
    have hL7 : Lay w7 w7.heap.size [M.textI (M.ben no), M.textI (M.ben 1)] (.slice (some ⟨w6.heap.size, 0, none⟩) 2 2) := by
      have := lay_made w6 [(M.textI (M.ben no), .slice none 0 0), (M.textI (M.ben 1), .slice none 0 0)] (by
        intro p hp
        simp only [List.mem_cons, List.not_mem_nil, or_false] at hp
        rcases hp with rfl | rfl
        · exact .nil_ (by decide)
        · exact .nil_ (by decide)) (by show 2 ≤ maxLen; decide)
      rw [← hw7]
      exact this.mono (by simp)
    rw [hw7]
    clear hw7
    have hb47 : Below w4.heap.size w4 w7 := hb5.trans ((hb6.trans (hb67.mono hb6.size)).mono hb5.size)
    have HR7 := Lib.hid (fun Y (h : Below w7.heap.size w7 Y) => HR.out Y (hS7.trans (h.mono hS7.size)))
    have HJP := Lib.hid (fun Y (h : Below w7.heap.size w7 Y) => joinedT_any [sb, M.ben ga] (some ⟨w3.heap.size, 0, none⟩) 2 Y ((HL4.out.from_ (hb47.trans (h.mono hb47.size))).mono (hb47.trans (h.mono hb47.size)).size) (by show 2 ≤ 10; decide) HSP.out)
    have hft : ([M.ben no, M.ben 1].take (f)).length = f := by rw [List.length_take]; exact Nat.min_eq_left hf2
    have HJM := Lib.hid (fun Y (h : Below w7.heap.size w7 Y) => joinedT_any ([M.ben no, M.ben 1].take (f)) (some ⟨w6.heap.size, 0, none⟩) 2 Y (by
      have := ((hL7.from_ h).mono h.size).take (f) hf2
      rw [List.map_take, hft]
      exact this) (by rw [List.length_take]; exact Nat.le_trans (Nat.min_le_right _ _) (by show 2 ≤ 10; decide)) (fun s hs => HSM.out s (List.mem_of_mem_take hs)))
    have HJL7 := Lib.hid (fun Y (h : Below w7.heap.size w7 Y) => HJL.out Y (hS7.trans (h.mono hS7.size)))
    have HLI7 := Lib.hid (fun Y (_ : Below w7.heap.size w7 Y) => HLI.out Y)
    have HFO7 := Lib.hid (fun Y (_ : Below w7.heap.size w7 Y) => HFO.out Y)
    rw [List.map_take, hft] at HJM
    simp only [List.map_cons, List.map_nil, List.length_cons, List.length_nil, Nat.zero_add, Nat.reduceAdd] at HJP HJM
    rw [HP.out] at HJP
    rw [HRR.out] at HJM
    have HQL := HQ.out
    have HPL := HPLN.out
    have HRL := HRLN.out
    clear hft HJL HLI HFO HSP HSM hL7 HL4 HFB HFN HFM HF1 hb5 hb6 hb67 hb34 hb47 HP HRR
    have hf2' : (f : Int) ≤ 2 := by omega
    refine wp_region_held (S := fun Y => Below w7.heap.size w7 Y) mixed ?_
    have hS0 : Below w7.heap.size w7 w7.drew := Below.drew (Below.refl _ _)
    rw [show Array.replicate (Array.size _) false = #[false, false, false, false, false, false, false, false, false, false, false, false, false, false] from rfl, show Array.size (α := Oper) _ = 14 from rfl]
    refine wpAnyH_take (i := 0) (v := .slice (some ⟨w3.heap.size, 0, none⟩) 2 2) rfl (by kernel_rfl) (by kernel_rfl) (by kernel_rfl) (fun _ _ _ h => h) (Or.inl ⟨by rfl, ?_⟩) hS0 ?_
    · intro Y hY
      skip
      go_simp
    simp only [Act.put, List.getElem_toArray, List.getElem_cons_zero, List.setIfInBounds_toArray, List.set_cons_zero, List.set_cons_succ]
    refine wpAnyH_take (i := 2) (v := .pointer (some ⟨w.heap.size, 3, none⟩)) rfl (by kernel_rfl) (by kernel_rfl) (by kernel_rfl) (fun _ _ _ h => h) (Or.inl ⟨by rfl, ?_⟩) hS0 ?_
    · intro Y hY
      skip
      go_simp
    simp only [Act.put, List.getElem_toArray, List.getElem_cons_succ, List.getElem_cons_zero, List.setIfInBounds_toArray, List.set_cons_zero, List.set_cons_succ]
    refine wpAnyH_take (i := 3) (v := .slice a ls.length cap) rfl (by kernel_rfl) (by kernel_rfl) (by kernel_rfl) (fun _ _ _ h => h) (Or.inl ⟨by rfl, ?_⟩) hS0 ?_
    · intro Y hY
      obtain ⟨a0, a1, a2, a3, a4, a5, a6⟩ := HR7.out _ hY
      go_simp
    simp only [Act.put, List.getElem_toArray, List.getElem_cons_succ, List.getElem_cons_zero, List.setIfInBounds_toArray, List.set_cons_zero, List.set_cons_succ]
    refine wpAnyH_take (i := 7) (v := .slice (some ⟨w6.heap.size, 0, none⟩) 2 2) rfl (by kernel_rfl) (by kernel_rfl) (by kernel_rfl) (fun _ _ _ h => h) (Or.inl ⟨by rfl, ?_⟩) hS0 ?_
    · intro Y hY
      skip
      go_simp
    simp only [Act.put, List.getElem_toArray, List.getElem_cons_succ, List.getElem_cons_zero, List.setIfInBounds_toArray, List.set_cons_zero, List.set_cons_succ]
    refine wpAnyH_take (i := 8) (v := rcv ⟨k, st, ga, ls, fu, no, ve⟩ (.slice a ls.length cap)) rfl (by kernel_rfl) (by kernel_rfl) (by kernel_rfl) (fun _ _ _ h => h) (Or.inl ⟨by rfl, ?_⟩) hS0 ?_
    · intro Y hY
      obtain ⟨a0, a1, a2, a3, a4, a5, a6⟩ := HR7.out _ hY
      go_simp
    simp only [Act.put, List.getElem_toArray, List.getElem_cons_succ, List.getElem_cons_zero, List.setIfInBounds_toArray, List.set_cons_zero, List.set_cons_succ]
    refine wpAnyH_ready (rs := [1]) (by kernel_rfl) (by simp) ?_
    refine AllReadyH.cons rfl (fun K hK => ?_) AllReadyH.nil
    go_simp
    refine (HJP.out _ hS0).mono ?_
    rintro e w8 ⟨rfl, hb8⟩
    have hS8 : Below w7.heap.size w7 w8 := hS0.trans (Below.mono hb8 hS0.size)
    try go_wp2_with fail
    refine hK.out _ _ hS8 (fun _ => ?_)
    clear hK K
    simp only [List.setIfInBounds_toArray, List.set_cons_zero, List.set_cons_succ]
    refine wpAnyH_ready (rs := [4]) (by kernel_rfl) (by simp) ?_
    refine AllReadyH.cons rfl (fun K hK => ?_) AllReadyH.nil
    go_simp
    refine (HJL7.out _ hS8).mono ?_
    rintro e w9 ⟨rfl, hb9⟩
    have hS9 : Below w7.heap.size w7 w9 := hS8.trans (Below.mono hb9 hS8.size)
    try go_wp2_with fail
    refine hK.out _ _ hS9 (fun _ => ?_)
    clear hK K
    simp only [List.setIfInBounds_toArray, List.set_cons_zero, List.set_cons_succ]
    refine wpAnyH_ready (rs := [5]) (by kernel_rfl) (by simp) ?_
    refine AllReadyH.cons rfl (fun K hK => ?_) AllReadyH.nil
    go_simp
    refine (HLI7.out _ hS9).mono ?_
    rintro e w10 ⟨rfl, hb10⟩
    have hS10 : Below w7.heap.size w7 w10 := hS9.trans (Below.mono hb10 hS9.size)
    try go_wp2_with fail
    refine hK.out _ _ hS10 (fun _ => ?_)
    clear hK K
    simp only [List.setIfInBounds_toArray, List.set_cons_zero, List.set_cons_succ]
    refine wpAnyH_take (i := 6) (v := .string ⟨(P ++ Q).toArray⟩) rfl (by kernel_rfl) (by kernel_rfl) (by kernel_rfl) (fun _ _ _ h => h) (Or.inl ⟨by rfl, ?_⟩) hS10 ?_
    · intro Y hY
      skip
      go_simp
      rw [if_neg (by first | omega | (rw [List.length_append]; omega)), cat_eq]
      try rw [List.append_assoc]
    simp only [Act.put, List.getElem_toArray, List.getElem_cons_succ, List.getElem_cons_zero, List.setIfInBounds_toArray, List.set_cons_zero, List.set_cons_succ]
    refine wpAnyH_ready (rs := [9]) (by kernel_rfl) (by simp) ?_
    refine AllReadyH.cons rfl (fun K hK => ?_) AllReadyH.nil
    go_simp
    refine (HFO7.out _ hS10).mono ?_
    rintro e w11 ⟨rfl, hb11⟩
    have hS11 : Below w7.heap.size w7 w11 := hS10.trans (Below.mono hb11 hS10.size)
    try go_wp2_with fail
    refine hK.out _ _ hS11 (fun _ => ?_)
    clear hK K
    simp only [List.setIfInBounds_toArray, List.set_cons_zero, List.set_cons_succ]
    refine wpAnyH_take (i := 10) (v := .slice (some ⟨w6.heap.size, 0, none⟩) f 2) rfl (by kernel_rfl) (by kernel_rfl) (by kernel_rfl) (fun _ _ _ h => h) (Or.inl ⟨by rfl, ?_⟩) hS11 ?_
    · intro Y hY
      skip
      go_simp
    simp only [Act.put, List.getElem_toArray, List.getElem_cons_succ, List.getElem_cons_zero, List.setIfInBounds_toArray, List.set_cons_zero, List.set_cons_succ]
    refine wpAnyH_ready (rs := [11]) (by kernel_rfl) (by simp) ?_
    refine AllReadyH.cons rfl (fun K hK => ?_) AllReadyH.nil
    go_simp
    refine (HJM.out _ hS11).mono ?_
    rintro e w12 ⟨rfl, hb12⟩
    have hS12 : Below w7.heap.size w7 w12 := hS11.trans (Below.mono hb12 hS11.size)
    try go_wp2_with fail
    refine hK.out _ _ hS12 (fun _ => ?_)
    clear hK K
    simp only [List.setIfInBounds_toArray, List.set_cons_zero, List.set_cons_succ]
    refine wpAnyH_take (i := 12) (v := .string ⟨(P ++ Q ++ R).toArray⟩) rfl (by kernel_rfl) (by kernel_rfl) (by kernel_rfl) (fun _ _ _ h => h) (Or.inl ⟨by rfl, ?_⟩) hS12 ?_
    · intro Y hY
      skip
      go_simp
      rw [if_neg (by first | omega | (rw [List.length_append]; omega)), cat_eq]
      try rw [List.append_assoc]
    simp only [Act.put, List.getElem_toArray, List.getElem_cons_succ, List.getElem_cons_zero, List.setIfInBounds_toArray, List.set_cons_zero, List.set_cons_succ]
    refine wpAnyH_take (i := 13) (v := .string ⟨(P ++ Q ++ R).toArray⟩) rfl (by kernel_rfl) (by kernel_rfl) (by kernel_rfl) (fun _ _ _ h => h) (Or.inl ⟨by rfl, ?_⟩) hS12 ?_
    · intro Y hY
      skip
      go_simp
    simp only [Act.put, List.getElem_toArray, List.getElem_cons_succ, List.getElem_cons_zero, List.setIfInBounds_toArray, List.set_cons_zero, List.set_cons_succ]
    refine wpAnyH_done (by kernel_rfl) ?_ _
    have hS0w : Below w0.heap.size w0 w12 := hS7.trans (hS12.mono hS7.size)
    obtain ⟨a0, a1, a2, a3, a4, a5, a6⟩ := HR.out _ hS0w
    clear hb8 hb9 hb10 hb11 hb12 HJP HJM HJL7 HLI7 HFO7 HR7
    rw [← HOWN.out]
    clear HPLN HRLN HQ
    go_wp2_with fail
    refine (HHD.out _).mono ?_
    rintro e w13 ⟨rfl, hb13⟩
    have hS13 := hS0w.trans (hb13.mono hS0w.size)
    clear hb13 a0 a1 a2 a3 a4 a5 a6
    go_wp2_with fail
    refine (HLP.out _).mono ?_
    rintro e w14 ⟨rfl, hb14⟩
    go_wp2_with fail
    go_ret2
    exact ⟨by simp [cat_eq], HB.out.trans ((hS13.trans (hb14.mono hS13.size)).mono HB.out.size)⟩
  · have hE : M.encR x = ([], M.chkR x) := by unfold M.encR; rw [if_neg hc]
    have hne : (((M.chkR x : Nat) : Int) != 0) = true := by simp; omega
    rw [hE]
    clear hc hE
    generalize M.chkR x = q at *
    go_enter Tryz.func12, Tryz.ntmps12
    go_wp2_with fail
    rw [HW.out]
    refine (HCk.out _ (Below.refl _ _)).mono ?_
    rintro e w1 ⟨rfl, hb1⟩
    go_wp2_with fail
    go_ret2
    exact ⟨rfl, HB.out.trans (hb1.mono HB.out.size)⟩
end Go.Proofs.YtihiacbhdcahkaaGreatDoor
