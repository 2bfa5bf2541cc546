/- Receipts, plainly: what is written is read as it was. -/
import Derived.Test.YtihiacbhdcahkaaGreatDoorEX
import Derived.Test.YtihiacbhdcahkaaGreatDoorTZ1g
namespace Go.Proofs.YtihiacbhdcahkaaGreatDoor
open Go Go.RowKit Go.Lib
namespace M
theorem logI_len1 {g : Lg} (h1 : g.addr.length ≤ 20) (h2 : g.data.length ≤ 300) (h3 : g.topics.length ≤ 4) (h4 : ∀ s ∈ g.topics, s.length ≤ 32) : (bytesI (logI g)).length ≤ 1000 := by
  have e1 := textI_len (s := g.addr) (by omega)
  have e2 := textI_len (s := g.data) (by omega)
  have e3 := texts_len 32 (by omega) g.topics h4
  have e4 : (bytesI (textsI g.topics)).length ≤ (bytesIs (g.topics.map textI)).length + 9 := listI_len (by omega)
  have e5 : (bytesIs [textI g.addr, textsI g.topics, textI g.data]).length ≤ 900 := by
    simp only [bytesIs, List.length_append, List.length_nil]
    omega
  have := listI_len (xs := [textI g.addr, textsI g.topics, textI g.data]) (by omega)
  unfold logI
  omega
theorem logs_len1 : ∀ ls : List Lg, (∀ g ∈ ls, (bytesI (logI g)).length ≤ 1000) → (bytesIs (ls.map logI)).length ≤ ls.length * 1000
  | [], _ => by simp [bytesIs]
  | g :: ls, h => by
    have h1 := logs_len1 ls fun x hx => h x (List.mem_cons_of_mem _ hx)
    have h2 := h g (by simp)
    rw [List.map_cons, bytesIs, List.length_append, List.length_cons, Nat.add_mul]
    omega
theorem rdX_back {α : Type} {z : α} {f : It → α × Nat} {x : It} : rdX z f 0 x = f x := by unfold rdX; rw [if_pos rfl]
theorem rdT_back {f : It → List UInt8 × Nat} {x : It} : rdT f 0 x = f x := by unfold rdT; rw [if_pos rfl]
theorem rdL_back {least most : Int} {xs : List It} (h1 : least ≤ xs.length) (h2 : (xs.length : Int) ≤ most) : rdL 0 least most (listI xs) = (xs, 0) := by
  unfold rdL listI
  rw [if_pos rfl, getList, within_ok h1 h2, if_neg (by simp)]
theorem rdEach_back {α : Type} {f : Nat → It → α × Nat} {w : α → It} (ys : List α) (h : ∀ y ∈ ys, f 0 (w y) = (y, 0)) : rdEach f 0 (ys.map w) = (ys, 0) := by
  induction ys with
  | nil => rfl
  | cons y ys ih =>
    rw [List.map_cons, rdEach, h y (by simp), ih fun x hx => h x (List.mem_cons_of_mem _ hx)]
theorem rText_back {s : List UInt8} {n : Nat} (h : s.length = n) : rText n (textI s) = (s, 0) := by
  unfold rText
  rw [text_in s n n (by omega) (by omega), if_pos rfl]
theorem rdLog_back {g : Lg} (h1 : g.addr.length = 20) (h2 : g.data.length ≤ 4096) (h3 : g.topics.length ≤ 4) (h4 : ∀ s ∈ g.topics, s.length = 32) : rdLog 0 (logI g) = (g, 0) := by
  have e0 : rdL 0 3 3 (logI g) = ([textI g.addr, textsI g.topics, textI g.data], 0) := rdL_back (by simp) (by simp)
  unfold rdLog
  rw [e0, if_neg (by simp)]
  unfold rdParts
  simp only [List.getD_cons_zero, List.getD_cons_succ]
  have e1 : rdT (rText 20) 0 (textI g.addr) = (g.addr, 0) := rdT_back.trans (rText_back (n := 20) h1)
  have e2 : rdL 0 0 4 (textsI g.topics) = (g.topics.map textI, 0) := rdL_back (by omega) (by rw [List.length_map]; omega)
  have e3 : rdEach (rdT (rText 32)) 0 (g.topics.map textI) = (g.topics, 0) := rdEach_back g.topics fun y hy => rdT_back.trans (rText_back (n := 32) (h4 y hy))
  have e4 : rdT (getText 0 4096) 0 (textI g.data) = (g.data, 0) := rdT_back.trans (text_in g.data 0 4096 (by omega) (by omega))
  rw [e1, e2, e3, e4]
theorem kdOf_back {k : Int} (hk : kdB k = true) (own : List UInt8) (ho : ∃ c r, own = c :: r ∧ 192 ≤ c.toNat) : kdOf (headR k ++ own) = (k.toNat, 0) ∧ (headR k ++ own).drop (headR k).length = own ∧ ((k.toNat : Nat) : Int) = k := by
  obtain ⟨c, r, rfl, hc⟩ := ho
  have h := kdB_ok hk
  by_cases h0 : k = 0
  · subst h0
    refine ⟨?_, rfl, rfl⟩
    show kdOf (c :: r) = _
    rw [kdOf, if_pos hc]
    rfl
  · have e : headR k = [UInt8.ofNat k.toNat] := by unfold headR; rw [if_neg h0]
    rw [e]
    refine ⟨?_, by simp, by omega⟩
    rcases h with h | h | h | h | h
    · exact absurd h h0
    all_goals
      subst h
      rfl
theorem list_head (ps : List It) (h : (bytesIs ps).length < 18446744073709551616) : ∃ c r, bytesI (listI ps) = c :: r ∧ 192 ≤ c.toNat := by
  unfold listI
  rw [bytesI]
  unfold hdL
  by_cases h1 : (bytesIs ps).length < 56
  · rw [if_pos h1]
    refine ⟨_, _, rfl, ?_⟩
    rw [UInt8.toNat_ofNat']
    omega
  · rw [if_neg h1]
    refine ⟨_, _, rfl, ?_⟩
    have := ben_le h
    rw [UInt8.toNat_ofNat']
    omega
theorem bytesIs_three (a b c : It) (m : List It) : (bytesIs ([a, b, c] ++ m)).length = (bytesI a).length + ((bytesI b).length + ((bytesI c).length + (bytesIs m).length)) := by
  rw [bytesIs_app]
  simp only [bytesIs, List.length_append, List.length_nil]
  omega
/-- A receipt that may be, of few bytes, is read as it was. -/
theorem enc_back {x : Rc} (h : chkR x = 0) (hg : x.gas < 18446744073709551616) (hn : x.nonce < 18446744073709551616) (hd : ∀ g ∈ x.logs, g.data.length ≤ 300) :
    rdRc (bytesR x) = (x, 0) ∧ Gd (rdI (kdOf (bytesR x)).2 ((bytesR x).drop (headR ((kdOf (bytesR x)).1 : Int)).length)).1 ∧ (bytesR x).length ≤ 200000 := by
  obtain ⟨h1, h2⟩ := chkR_logs h
  obtain ⟨hk, hf, _⟩ := chkR_ok h
  have hl : ∀ g ∈ x.logs, (bytesI (logI g)).length ≤ 1000 := fun g hg' => by
    obtain ⟨a1, a2, a3, a4⟩ := h2 g hg'
    exact logI_len1 (by omega) (hd g hg') a3 fun s hs => by rw [a2 s hs]; omega
  have hl2 := logs_len1 x.logs hl
  have hl3 := listI_len (xs := x.logs.map logI) (by omega)
  have hb4 := ben_text hg
  have hb5 := bytesIs_take [textI (ben x.nonce), textI (ben 1)] (formR x)
  have hb6 := ben_text hn
  have hb7 := ben_text (n := 1) (by omega)
  have hb8 : (bytesI (boolI x.st)).length ≤ 10 := by
    cases x.st
    · exact Nat.le_trans (textI_len (s := []) (by decide)) (by decide)
    · exact Nat.le_trans (textI_len (s := [1]) (by decide)) (by decide)
  have hps : (bytesIs (partsR x)).length ≤ 20000 := by
    unfold partsR
    rw [bytesIs_three]
    simp only [bytesIs, List.length_append, List.length_nil] at hb5
    have : x.logs.length * 1000 ≤ 16000 := by omega
    omega
  have hown := listI_len (xs := partsR x) (by omega)
  have hfo2 : formR x ≤ 2 := by unfold formR; split <;> (try split) <;> omega
  have htk : ([textI (ben x.nonce), textI (ben 1)].take (formR x)).length = formR x := by rw [List.length_take]; simp; omega
  have hlen : (partsR x).length = 3 + formR x := by
    unfold partsR
    rw [List.length_append, htk]
    rfl
  have hform : formI 0 (listI (partsR x)) = 0 := by
    have e1 : ∀ ls : List Lg, (∀ g ∈ ls, g.topics.length ≤ 10) → formIs 2 (ls.map logI) = 0 := fun ls => by
      induction ls with
      | nil => intro _; simp [formIs]
      | cons g ls ih =>
        intro hq
        rw [List.map_cons, formIs, logI_form (hq g (by simp)) 2 (by omega), if_neg (by simp)]
        exact ih fun y hy => hq y (List.mem_cons_of_mem _ hy)
    have e2 : formI 1 (listI (x.logs.map logI)) = 0 := by
      unfold listI
      rw [formI, if_neg (by simp), if_neg (by simp), if_neg (by omega), if_neg (by rw [List.length_map]; omega)]
      exact e1 x.logs fun g hg' => by have := (h2 g hg').2.2.1; omega
    have e3 : ∀ s : List UInt8, formI 1 (textI s) = 0 := fun s => by simp [textI, formI]
    have e4 : formIs 1 (partsR x) = 0 := by
      unfold partsR
      rw [formIs_append]
      have a : formIs 1 [boolI x.st, textI (ben x.gas), listI (x.logs.map logI)] = 0 := by
        simp only [formIs, boolI, e3, e2]
        simp
      rw [a, if_neg (by simp)]
      have : formR x = 0 ∨ formR x = 1 ∨ formR x = 2 := by omega
      rcases this with q | q | q <;> rw [q] <;> simp [formIs, e3]
    unfold listI
    rw [formI, if_neg (by simp), if_neg (by simp), if_neg (by omega), if_neg (by omega)]
    exact e4
  have hchk : checkI (listI (partsR x)) = 0 := checkI_ok.2 ⟨hform, by omega⟩
  obtain ⟨k1, k2, k3⟩ := kdOf_back hk (bytesI (listI (partsR x))) (list_head (partsR x) (by omega))
  have hI : rdI 0 (bytesI (listI (partsR x))) = (listI (partsR x), 0) := by
    unfold rdI
    rw [if_pos rfl]
    exact dec_back hchk
  have hbr : bytesR x = headR x.kind ++ bytesI (listI (partsR x)) := rfl
  have hcnt : cntI (listI (partsR x)) ≤ 4000 := by
    have c1 : ∀ ls : List Lg, (∀ g ∈ ls, g.topics.length ≤ 4) → cntIs (ls.map logI) ≤ ls.length * 9 := fun ls => by
      induction ls with
      | nil => intro _; simp [cntIs]
      | cons g ls ih =>
        intro hq
        have := ih fun y hy => hq y (List.mem_cons_of_mem _ hy)
        have q := hq g (by simp)
        have e := logI_cnt g
        rw [List.map_cons, cntIs, List.length_cons, Nat.add_mul]
        have : cntI (logI g) = 1 + cntIs [textI g.addr, textsI g.topics, textI g.data] := by unfold logI listI; rw [cntI]
        omega
    have c2 := c1 x.logs fun g hg' => (h2 g hg').2.2.1
    have c3 : x.logs.length * 9 ≤ 144 := by omega
    have c4 : cntIs ([textI (ben x.nonce), textI (ben 1)].take (formR x)) ≤ 2 := by
      have : formR x = 0 ∨ formR x = 1 ∨ formR x = 2 := by omega
      rcases this with q | q | q <;> rw [q] <;> simp [cntIs, cntI, textI]
    unfold listI
    rw [cntI]
    unfold partsR
    rw [cntIs_append]
    simp only [cntIs, boolI, textI, listI, cntI] at c4 ⊢
    omega
  have hmp : ((partsR x).length : Int) ≤ (mostP x.kind.toNat : Nat) := by
    rw [hlen]
    by_cases hq : x.full = true
    · have : x.kind = 126 := by
        unfold formedR at hf
        simp [hq] at hf
        exact hf.1.1
      rw [this]
      show ((3 + formR x : Nat) : Int) ≤ 5
      omega
    · have : formR x = 0 := by unfold formR; simp [hq]
      rw [this]
      unfold mostP
      split <;> simp
  have hL : rdL 0 3 (mostP x.kind.toNat : Nat) (listI (partsR x)) = (partsR x, 0) := rdL_back (by rw [hlen]; omega) hmp
  refine ⟨?_, ?_, ?_⟩
  · unfold rdRc
    rw [hbr]
    simp only [k1, k3, k2, hI, hL]
    rw [if_neg (by simp)]
    have hE : rdEach rdLog 0 (x.logs.map logI) = (x.logs, 0) := rdEach_back x.logs fun g hg' => by
      obtain ⟨a1, a2, a3, a4⟩ := h2 g hg'
      exact rdLog_back a1 a4 a3 a2
    have hR : rdL 0 0 16 (listI (x.logs.map logI)) = (x.logs.map logI, 0) := rdL_back (by omega) (by rw [List.length_map]; omega)
    have hN : rdX 0 getNumber 0 (textI (ben x.gas)) = (x.gas, 0) := rdX_back.trans (number_back hg)
    have hB : rdX false getBool 0 (boolI x.st) = (x.st, 0) := rdX_back.trans (bool_back x.st)
    have hM : rdMore 0 ([textI (ben x.nonce), textI (ben 1)].take (formR x)) = ((x.full, x.nonce, x.ver), 0) := by
      have hO : rdX 0 getNumber 0 (textI (ben x.nonce)) = (x.nonce, 0) := rdX_back.trans (number_back hn)
      have hV : rdX 0 rVersion 0 (textI (ben 1)) = (1, 0) := by
        rw [rdX_back]
        unfold rVersion
        rw [number_back (n := 1) (by omega), if_neg (by simp)]
      unfold formedR at hf
      unfold formR
      by_cases hq : x.full = true
      · rw [if_pos hq, hq]
        have hv : x.ver ≤ 1 := by
          simp [hq] at hf
          exact hf.1.2
        by_cases hv0 : x.ver = 0
        · rw [if_pos hv0, hv0]
          show rdMore 0 [textI (ben x.nonce)] = _
          rw [rdMore, hO]
        · have hv1 : x.ver = 1 := by omega
          rw [if_neg hv0, hv1]
          show rdMore 0 [textI (ben x.nonce), textI (ben 1)] = _
          rw [rdMore, hO, hV]
      · have hq' : x.full = false := by simpa using hq
        simp [hq'] at hf
        rw [if_neg hq, hq', hf.1.1, hf.1.2]
        rfl
    unfold rdRcP
    have g0 : (partsR x).getD 0 zeroI = boolI x.st := rfl
    have g1 : (partsR x).getD 1 zeroI = textI (ben x.gas) := rfl
    have g2 : (partsR x).getD 2 zeroI = listI (x.logs.map logI) := rfl
    have g3 : (partsR x).drop 3 = [textI (ben x.nonce), textI (ben 1)].take (formR x) := rfl
    simp only [g0, g1, g2, g3, hB, hN, hR, hE, hM, k3]
  · rw [hbr]
    simp only [k1, k3, k2, hI]
    exact gd_of hchk hcnt
  · rw [hbr, List.length_append]
    have : (headR x.kind).length ≤ 1 := by unfold headR; split <;> simp
    omega
end M
end Go.Proofs.YtihiacbhdcahkaaGreatDoor
