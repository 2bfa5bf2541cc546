/- Receipts, plainly: what is read is written just so. Receipts, plainly: a receipt that is read is written just so. Receipts: works, the document's example and each form. The reference's Few, of a receipt. The reference of layer 11: which kinds there are; the form. The reference of layer 10: Long, First. The reference of layer 6: GetList, GetText, GetBool. The reference's word of 32 digits. The reference's Unfixed and Parse. The reference's Parse. The references: Unbe, GetNumber, First. -/
import Derived.Test.YtebjhbeaknokkaaGreatDoorH14
import Derived.Test.YtebjhbeaknokkaaGreatDoorH06
import Derived.Test.YtebjhbeaknokkaaGreatDoorW5g
import Derived.Test.YtebjhbeaknokkaaGreatDoorH07
import Derived.Laws.IdiomStrings
namespace Go.Proofs.YtebjhbeaknokkaaGreatDoor
open Go Go.RowKit Go.Lib
namespace M
mutual
theorem sm_form : ∀ (x : It) (d : Nat), formI d x = 0 → (bytesI x).length ≤ 65536 → smI x
  | .mk false b xs, d, h, hz => by
    obtain rfl := (formI_ok h).2 rfl
    have := bytes_len (.mk false b [])
    rw [ownI] at this
    rw [smI]
    exact ⟨by omega, trivial⟩
  | .mk true b xs, d, h, hz => by
    obtain ⟨rfl, _, _, h4⟩ := (formI_ok h).1 rfl
    rw [bytesI, List.length_append] at hz
    rw [smI]
    exact ⟨by simp, sms_form xs (d + 1) h4 (by omega)⟩
theorem sms_form : ∀ (xs : List It) (d : Nat), formIs d xs = 0 → (bytesIs xs).length ≤ 65536 → smIs xs
  | [], _, _, _ => by rw [smIs]; trivial
  | x :: xs, d, h, hz => by
    obtain ⟨h1, h2⟩ := formIs_ok h
    rw [bytesIs, List.length_append] at hz
    rw [smIs]
    exact ⟨sm_form x d h1 (by omega), sms_form xs d h2 (by omega)⟩
end
theorem gd_zero : Gd zeroI := by
  refine ⟨?_, ?_, ?_⟩
  · rw [smI]; exact ⟨by simp, by rw [smIs]; trivial⟩
  · simp [cntIs]
  · simp [formI]
theorem gd_of {x : It} (h : checkI x = 0) (hz : cntI x ≤ 4000) : Gd x := by
  obtain ⟨h1, h2⟩ := checkI_ok.1 h
  have h3 := sm_form x 0 h1 h2
  obtain ⟨l, d, ys⟩ := x
  rw [cntI] at hz
  exact ⟨h3, by omega, h1⟩
theorem gd_rdI (e : Nat) (s : List UInt8) (hs : s.length ≤ 4000) : Gd (rdI e s).1 := by
  unfold rdI
  split
  · by_cases h : (decodeL s).2 = 0
    · obtain ⟨h1, h2⟩ := dec_only h
      have h3 := cnt_le (decodeL s).1 0 (checkI_ok.1 h2).1
      rw [h1] at h3
      exact gd_of h2 (by omega)
    · rw [dec_no h]; exact gd_zero
  · exact gd_zero
theorem rdX_ok {α : Type} {z : α} {f : It → α × Nat} {e : Nat} {x : It} (h : (rdX z f e x).2 = 0) : e = 0 ∧ (f x).2 = 0 ∧ (rdX z f e x).1 = (f x).1 := by
  unfold rdX at h ⊢
  by_cases h0 : e = 0
  · rw [if_pos h0] at h ⊢
    exact ⟨h0, h, rfl⟩
  · rw [if_neg h0] at h
    exact absurd h h0
theorem rdT_ok {f : It → List UInt8 × Nat} {e : Nat} {x : It} (h : (rdT f e x).2 = 0) : e = 0 ∧ (f x).2 = 0 ∧ (rdT f e x).1 = (f x).1 := by
  unfold rdT at h ⊢
  by_cases h0 : e = 0
  · rw [if_pos h0] at h ⊢
    exact ⟨h0, h, rfl⟩
  · rw [if_neg h0] at h
    exact absurd h h0
theorem rdL_ok {least most : Int} {e : Nat} {x : It} (h : (rdL e least most x).2 = 0) : e = 0 ∧ ∃ b, x = .mk true b (rdL e least most x).1 := by
  unfold rdL at h ⊢
  by_cases h0 : e = 0
  · rw [if_pos h0] at h ⊢
    obtain ⟨b, xs, e1, e2⟩ := getList_ok h
    exact ⟨h0, b, by rw [e2]; exact e1⟩
  · rw [if_neg h0] at h
    exact absurd h h0
theorem rdEach_ok {α : Type} {f : Nat → It → α × Nat} (hf : ∀ e x, (f e x).2 = 0 → e = 0) : ∀ {e : Nat} {xs : List It}, (rdEach f e xs).2 = 0 → e = 0 ∧ (∀ x ∈ xs, (f 0 x).2 = 0) ∧ (rdEach f e xs).1 = xs.map fun x => (f 0 x).1
  | e, [], h => ⟨h, by simp, rfl⟩
  | e, x :: xs, h => by
    rw [rdEach] at h ⊢
    obtain ⟨h1, h2, h3⟩ := rdEach_ok hf h
    obtain rfl := hf e x h1
    refine ⟨rfl, ?_, ?_⟩
    · intro y hy
      rcases List.mem_cons.1 hy with rfl | hy
      · exact h1
      · exact h2 y hy
    · rw [List.map_cons]
      exact congrArg (List.cons _) h3
theorem gText_in {least most : Int} {d : List UInt8} (h : (gText least most d).2 = 0) : least ≤ d.length ∧ (d.length : Int) ≤ most := by
  unfold gText at h
  by_cases h1 : within d.length least most ≠ 0
  · rw [if_pos h1] at h; exact absurd h h1
  · have h1 : within d.length least most = 0 := by omega
    unfold within at h1
    split at h1
    · cases h1
    · split at h1
      · cases h1
      · omega
theorem getText_in {least most : Int} {x : It} (h : (getText least most x).2 = 0) : least ≤ (getText least most x).1.length ∧ ((getText least most x).1.length : Int) ≤ most := by
  match x with
  | .mk true _ _ => cases h
  | .mk false d xs =>
    have h : (gText least most d).2 = 0 := h
    have e : (getText least most (.mk false d xs)).1 = d := gText_ok h
    rw [e]
    exact gText_in h
theorem rText_ok {n : Nat} {x : It} (hx : formI 0 x = 0) (h : (rText n x).2 = 0) : textI (rText n x).1 = x ∧ (rText n x).1.length = n := by
  unfold rText at h ⊢
  by_cases h1 : (getText n n x).2 = 0
  · rw [if_pos h1]
    obtain ⟨a, b⟩ := getText_in h1
    exact ⟨text_only hx h1, by show (getText n n x).1.length = n; omega⟩
  · rw [if_neg h1] at h; cases h
theorem rVersion_ok {x : It} (hx : formI 0 x = 0) (h : (rVersion x).2 = 0) : (rVersion x).1 = 1 ∧ textI (ben 1) = x := by
  unfold rVersion at h ⊢
  by_cases h1 : (getNumber x).2 = 0 ∧ (getNumber x).1 ≠ 1
  · rw [if_pos h1] at h; cases h
  · rw [if_neg h1] at h ⊢
    have h2 : (getNumber x).1 = 1 := by
      rcases Nat.lt_or_ge (getNumber x).1 1 with q | q
      · exact absurd ⟨h, by omega⟩ h1
      · rcases Nat.lt_or_ge 1 (getNumber x).1 with r | r
        · exact absurd ⟨h, by omega⟩ h1
        · omega
    refine ⟨h2, ?_⟩
    have := number_only hx h
    rw [h2] at this
    exact this
theorem number_lt (x : It) : (getNumber x).1 < 18446744073709551616 := by
  match x with
  | .mk true _ _ => show (0 : Nat) < _; decide
  | .mk false d _ => exact ub_lt d
theorem rdLog_zero (e : Nat) (x : It) (h : (rdLog e x).2 = 0) : e = 0 := by
  unfold rdLog at h
  by_cases h1 : (rdL e 3 3 x).2 ≠ 0
  · rw [if_pos h1] at h; exact absurd h h1
  · exact (rdL_ok (least := 3) (most := 3) (x := x) (by omega)).1
theorem gd_form {x : It} (h : Gd x) : formI 0 x = 0 := by
  obtain ⟨l, d, ys⟩ := x
  exact h.2.2
theorem log_only {x : It} (hx : Gd x) (h : (rdLog 0 x).2 = 0) : logI (rdLog 0 x).1 = x ∧ noLog (rdLog 0 x).1 = false ∧ longLog (rdLog 0 x).1 = false := by
  unfold rdLog at h ⊢
  by_cases h1 : (rdL 0 3 3 x).2 ≠ 0
  · rw [if_pos h1] at h; exact absurd h h1
  · rw [if_neg h1] at h ⊢
    have h1 : (rdL 0 3 3 x).2 = 0 := by omega
    obtain ⟨_, b, hb⟩ := rdL_ok h1
    obtain ⟨n1, n2⟩ := rdL_len h1
    have hg := rdL_gd (e0 := 0) (least := 3) (most := 3) hx
    have hf := gd_form hx
    generalize (rdL 0 3 3 x).1 = p at *
    subst hb
    obtain ⟨rfl, _, _, _⟩ := (formI_ok hf).1 rfl
    match p, n1, n2 with
    | [x0, x1, x2], _, _ =>
      have f0 := gd_form (hg x0 (by simp))
      have g1 := hg x1 (by simp)
      have f1 := gd_form g1
      have f2 := gd_form (hg x2 (by simp))
      unfold rdParts at h ⊢
      simp only [List.getD_cons_zero, List.getD_cons_succ] at h ⊢
      obtain ⟨e1, d1, d2⟩ := rdT_ok h
      obtain ⟨e2, t1, t2⟩ := rdEach_ok (fun e y hy => (rdT_ok hy).1) e1
      obtain ⟨e3, b1, hb1⟩ := rdL_ok e2
      obtain ⟨_, a1, a2⟩ := rdT_ok e3
      obtain ⟨m1, m2⟩ := rdL_len e2
      rw [d2, t2, a2]
      have hg1 := rdL_gd (e0 := (rdT (rText 20) 0 x0).2) (least := 0) (most := 4) g1
      generalize (rdL (rdT (rText 20) 0 x0).2 0 4 x1).1 = q at *
      subst hb1
      obtain ⟨rfl, _, _, _⟩ := (formI_ok f1).1 rfl
      obtain ⟨A1, A2⟩ := rText_ok (n := 20) f0 a1
      have D1 := text_only f2 d1
      obtain ⟨_, D2⟩ := getText_in d1
      have hq : ∀ y ∈ q, textI (rdT (rText 32) 0 y).1 = y ∧ (rdT (rText 32) 0 y).1.length = 32 := fun y hy => by
        obtain ⟨_, k1, k2⟩ := rdT_ok (t1 y hy)
        rw [k2]
        exact rText_ok (n := 32) (gd_form (hg1 y hy)) k1
      refine ⟨?_, ?_, ?_⟩
      · unfold logI listI textsI
        rw [List.map_map]
        have : q.map (textI ∘ fun y => (rdT (rText 32) 0 y).1) = q := by
          conv => rhs; rw [← List.map_id q]
          exact List.map_congr_left fun y hy => (hq y hy).1
        rw [this]
        show It.mk true [] [textI (rText (20 : Nat) x0).1, _, textI (getText 0 4096 x2).1] = _
        rw [A1, D1]
      · unfold noLog
        rw [Bool.or_eq_false_iff]
        refine ⟨?_, ?_⟩
        · show ((rText (20 : Nat) x0).1.length != 20) = false
          rw [A2]
          rfl
        · rw [List.any_eq_false]
          intro t ht
          obtain ⟨y, hy, rfl⟩ := List.mem_map.1 ht
          rw [(hq y hy).2]
          decide
      · unfold longLog
        rw [Bool.or_eq_false_iff]
        refine ⟨?_, ?_⟩
        · rw [decide_eq_false_iff_not, List.length_map]
          omega
        · rw [decide_eq_false_iff_not]
          have : (getText 0 4096 x2).1.length ≤ 4096 := by omega
          exact Nat.not_lt.2 this
    | [], n1, _ => simp at n1
    | [_], n1, _ => simp at n1
    | [_, _], n1, _ => simp at n1
    | _ :: _ :: _ :: _ :: _, _, n2 => simp at n2; omega
end M
end Go.Proofs.YtebjhbeaknokkaaGreatDoor
namespace Go.Proofs.YtebjhbeaknokkaaGreatDoor
open Go Go.RowKit Go.Lib
namespace M
theorem kdOf_zero {s : List UInt8} (h : (kdOf s).2 = 0) : kdB ((kdOf s).1 : Int) = true ∧ headR ((kdOf s).1 : Int) ++ s.drop (headR ((kdOf s).1 : Int)).length = s := by
  cases s with
  | nil => cases h
  | cons c r =>
    rw [kdOf] at h ⊢
    split at h
    · rename_i h1
      rw [if_pos h1]
      exact ⟨by decide, rfl⟩
    · rename_i h1
      rw [if_neg h1]
      split at h
      · rename_i h2
        rw [if_pos h2]
        refine ⟨?_, ?_⟩
        · unfold kdB
          rcases h2 with q | q | q | q <;> (simp only [q]; decide)
        · unfold headR
          rw [if_neg (by simp only []; omega)]
          simp
      · cases h
theorem zeroE_more {e : Nat} {xs : List It} (h : (rdMore e xs).2 = 0) : e = 0 := by
  match xs with
  | [] => exact h
  | [x] =>
    have h : (rdX 0 getNumber e x).2 = 0 := h
    exact (rdX_ok h).1
  | x :: y :: _ =>
    have h : (rdX 0 rVersion (rdX 0 getNumber e x).2 y).2 = 0 := h
    exact (rdX_ok (rdX_ok h).1).1
theorem logs_only {q : List It} (hq : ∀ y ∈ q, Gd y) (h : ∀ y ∈ q, (rdLog 0 y).2 = 0) : (q.map fun y => (rdLog 0 y).1).map logI = q ∧ (q.map fun y => (rdLog 0 y).1).any noLog = false ∧ (q.map fun y => (rdLog 0 y).1).any longLog = false := by
  refine ⟨?_, ?_, ?_⟩
  · rw [List.map_map]
    conv => rhs; rw [← List.map_id q]
    exact List.map_congr_left fun y hy => (log_only (hq y hy) (h y hy)).1
  · rw [List.any_eq_false]
    intro t ht
    obtain ⟨y, hy, rfl⟩ := List.mem_map.1 ht
    rw [(log_only (hq y hy) (h y hy)).2.1]
    decide
  · rw [List.any_eq_false]
    intro t ht
    obtain ⟨y, hy, rfl⟩ := List.mem_map.1 ht
    rw [(log_only (hq y hy) (h y hy)).2.2]
    decide
theorem rc_only {s : List UInt8} (hs : s.length ≤ 4000) (h : (rdRc s).2 = 0) : bytesR (rdRc s).1 = s ∧ chkR (rdRc s).1 = 0 ∧ (rdRc s).1.gas < 18446744073709551616 ∧ (rdRc s).1.nonce < 18446744073709551616 := by
  unfold rdRc at h ⊢
  simp only at h ⊢
  have hG := gd_rdI (kdOf s).2 (s.drop (headR ((kdOf s).1 : Int)).length) (by rw [List.length_drop]; omega)
  by_cases h1 : (rdL (rdI (kdOf s).2 (s.drop (headR ((kdOf s).1 : Int)).length)).2 3 (mostP (kdOf s).1) (rdI (kdOf s).2 (s.drop (headR ((kdOf s).1 : Int)).length)).1).2 ≠ 0
  · rw [if_pos h1] at h; exact absurd h h1
  · rw [if_neg h1] at h ⊢
    have h1 : (rdL (rdI (kdOf s).2 (s.drop (headR ((kdOf s).1 : Int)).length)).2 3 (mostP (kdOf s).1) (rdI (kdOf s).2 (s.drop (headR ((kdOf s).1 : Int)).length)).1).2 = 0 := by omega
    obtain ⟨e1, b, hb⟩ := rdL_ok h1
    obtain ⟨n1, n2⟩ := rdL_len h1
    have hg := rdL_gd (e0 := (rdI (kdOf s).2 (s.drop (headR ((kdOf s).1 : Int)).length)).2) (least := 3) (most := (mostP (kdOf s).1 : Nat)) hG
    have hf := gd_form hG
    have hk0 : (kdOf s).2 = 0 := by
      unfold rdI at e1
      by_cases q : (kdOf s).2 = 0
      · exact q
      · rw [if_neg q] at e1; exact absurd e1 q
    obtain ⟨k1, k2⟩ := kdOf_zero hk0
    have hown : bytesI (rdI (kdOf s).2 (s.drop (headR ((kdOf s).1 : Int)).length)).1 = s.drop (headR ((kdOf s).1 : Int)).length := by
      unfold rdI at e1 ⊢
      rw [if_pos hk0] at e1 ⊢
      exact (dec_only e1).1
    generalize (rdL (rdI (kdOf s).2 (s.drop (headR ((kdOf s).1 : Int)).length)).2 3 (mostP (kdOf s).1) (rdI (kdOf s).2 (s.drop (headR ((kdOf s).1 : Int)).length)).1).1 = p at *
    rw [hb] at hown hf
    obtain ⟨rfl, _, _, _⟩ := (formI_ok hf).1 rfl
    have hm : mostP (kdOf s).1 = if (kdOf s).1 = 126 then 5 else 3 := rfl
    have fin : ∀ x : Rc, x.kind = ((kdOf s).1 : Nat) → partsR x = p → bytesR x = s := fun x hx hp => by
      unfold bytesR
      rw [hx, hp]
      show headR _ ++ bytesI (.mk true [] p) = s
      rw [hown]
      exact k2
    generalize (kdOf s).1 = k at *
    clear hb hown e1 hk0 k2 hG hf h1
    have i0 : ∀ x, x ∈ p → formI 0 x = 0 := fun x hx => gd_form (hg x hx)
    have m1 : ∀ {e : Nat} {x : It}, Gd x → (rdEach rdLog (rdL e 0 16 x).2 (rdL e 0 16 x).1).2 = 0 → e = 0 ∧ listI ((rdEach rdLog (rdL e 0 16 x).2 (rdL e 0 16 x).1).1.map logI) = x ∧ (rdEach rdLog (rdL e 0 16 x).2 (rdL e 0 16 x).1).1.any noLog = false ∧ (rdEach rdLog (rdL e 0 16 x).2 (rdL e 0 16 x).1).1.any longLog = false ∧ (rdEach rdLog (rdL e 0 16 x).2 (rdL e 0 16 x).1).1.length ≤ 16 := by
      intro e x hx hr
      obtain ⟨a1, a2, a3⟩ := rdEach_ok rdLog_zero hr
      obtain ⟨c1, c, c2⟩ := rdL_ok a1
      have hq := rdL_gd (e0 := e) (least := 0) (most := 16) hx
      have hl := rdL_most (e0 := e) (least := 0) (most := 16) (x := x) (by omega)
      have hx0 := gd_form hx
      rw [a3]
      generalize (rdL e 0 16 x).1 = q at *
      subst c2
      obtain ⟨rfl, _, _, _⟩ := (formI_ok hx0).1 rfl
      obtain ⟨b1, b2, b3⟩ := logs_only hq a2
      refine ⟨c1, ?_, b2, b3, ?_⟩
      · unfold listI
        rw [b1]
      · rw [List.length_map]; omega
    unfold rdRcP at h ⊢
    simp only at h ⊢
    have z := zeroE_more h
    match p, n1, n2, hg, i0, fin with
    | x0 :: x1 :: x2 :: more, n1, n2, hg, i0, fin =>
      simp only [List.getD_cons_zero, List.getD_cons_succ, List.drop_succ_cons, List.drop_zero] at h z ⊢
      obtain ⟨z1, l1, l2, l3, l4⟩ := m1 (hg x2 (by simp)) z
      obtain ⟨z2, g1, g2⟩ := rdX_ok z1
      obtain ⟨_, b1, b2⟩ := rdX_ok z2
      have B := bool_only (i0 x0 (by simp)) b1
      have N := number_only (i0 x1 (by simp)) g1
      generalize (rdEach rdLog (rdL (rdX 0 getNumber (rdX false getBool 0 x0).2 x1).2 0 16 x2).2 (rdL (rdX 0 getNumber (rdX false getBool 0 x0).2 x1).2 0 16 x2).1) = lg at *
      rw [b2, g2]
      have hlong : ∀ (f : Bool) (no ve : Nat), longR ⟨(k : Nat), (getBool x0).1, (getNumber x1).1, lg.1, f, no, ve⟩ = false := fun f no ve => by
        unfold longR
        rw [Bool.or_eq_false_iff]
        exact ⟨by rw [decide_eq_false_iff_not]; show ¬ 16 < lg.1.length; omega, l3⟩
      match more, n2, hg, i0, h, fin with
      | [], n2, hg, i0, h, fin =>
        refine ⟨fin _ rfl ?_, chkR_zero k1 ?_ (hlong _ _ _), number_lt x1, by show (0 : Nat) < _; decide⟩
        · show [boolI (getBool x0).1, textI (ben (getNumber x1).1), listI (lg.1.map logI)] ++ _ = _
          rw [B, N, l1]
          rfl
        · unfold formedR
          simp [l2, rdMore]
      | [x3], n2, hg, i0, h, fin =>
        have hk : k = 126 := by
          rw [hm] at n2
          split at n2
          · assumption
          · simp at n2
        have h : (rdX 0 getNumber lg.2 x3).2 = 0 := h
        obtain ⟨_, o1, o2⟩ := rdX_ok h
        have O := number_only (i0 x3 (by simp)) o1
        refine ⟨fin _ rfl ?_, chkR_zero k1 ?_ (hlong _ _ _), number_lt x1, ?_⟩
        · show [boolI (getBool x0).1, textI (ben (getNumber x1).1), listI (lg.1.map logI)] ++ [textI (ben (rdX 0 getNumber lg.2 x3).1)] = _
          rw [o2, B, N, l1, O]
          rfl
        · subst hk
          unfold formedR
          simp [l2, rdMore]
        · show (rdX 0 getNumber lg.2 x3).1 < _
          rw [o2]
          exact number_lt x3
      | [x3, x4], n2, hg, i0, h, fin =>
        have hk : k = 126 := by
          rw [hm] at n2
          split at n2
          · assumption
          · simp at n2
        have h : (rdX 0 rVersion (rdX 0 getNumber lg.2 x3).2 x4).2 = 0 := h
        obtain ⟨h', v1, v2⟩ := rdX_ok h
        obtain ⟨_, o1, o2⟩ := rdX_ok h'
        have O := number_only (i0 x3 (by simp)) o1
        obtain ⟨V1, V2⟩ := rVersion_ok (i0 x4 (by simp)) v1
        refine ⟨fin _ rfl ?_, chkR_zero k1 ?_ (hlong _ _ _), number_lt x1, ?_⟩
        · have hfo : formR ⟨(k : Nat), (getBool x0).1, (getNumber x1).1, lg.1, true, (rdX 0 getNumber lg.2 x3).1, (rdX 0 rVersion (rdX 0 getNumber lg.2 x3).2 x4).1⟩ = 2 := by
            unfold formR
            rw [v2, V1]
            rfl
          unfold partsR
          show [boolI (getBool x0).1, textI (ben (getNumber x1).1), listI (lg.1.map logI)] ++ [textI (ben (rdX 0 getNumber lg.2 x3).1), textI (ben 1)].take (formR ⟨(k : Nat), (getBool x0).1, (getNumber x1).1, lg.1, true, (rdX 0 getNumber lg.2 x3).1, (rdX 0 rVersion (rdX 0 getNumber lg.2 x3).2 x4).1⟩) = _
          rw [hfo, o2, B, N, l1, O, V2]
          rfl
        · subst hk
          unfold formedR
          simp [l2, rdMore, v2, V1]
        · show (rdX 0 getNumber lg.2 x3).1 < _
          rw [o2]
          exact number_lt x3
      | _ :: _ :: _ :: _, n2, _, _, _, _ =>
        rw [hm] at n2
        simp only [List.length_cons] at n2
        split at n2 <;> omega
    | [], n1, _, _, _, _ => simp at n1
    | [_], n1, _, _, _, _ => simp at n1
    | [_, _], n1, _, _, _, _ => simp at n1
theorem dec_then_enc {s : List UInt8} (hs : s.length ≤ 4000) (h : (decR s).2 = 0) : encR (decR s).1 = (s, 0) ∧ chkR (decR s).1 = 0 ∧ (decR s).1.gas < 18446744073709551616 ∧ (decR s).1.nonce < 18446744073709551616 := by
  unfold decR at h ⊢
  by_cases h0 : (rdRc s).2 = 0
  · rw [if_pos h0]
    obtain ⟨a, b, c, d⟩ := rc_only hs h0
    refine ⟨?_, b, c, d⟩
    unfold encR
    rw [if_pos b, a]
  · rw [if_neg h0] at h
    exact absurd h h0
end M
end Go.Proofs.YtebjhbeaknokkaaGreatDoor
namespace Go.Proofs.YtebjhbeaknokkaaGreatDoor
open Go Go.RowKit Go.Lib
attribute [local go_sem] Oper.semAt_some
deriving instance DecidableEq for M.Lg, M.Rc

def zR : M.Rc := ⟨0, false, 0, [], false, 0, 0⟩
def dR : M.Rc := ⟨126, true, 5, [], true, 7, 1⟩
def iR : M.Rc := ⟨0, false, 0, [], true, 0, 0⟩
theorem er0 : M.encR zR = ([195, 128, 128, 192], 0) := by decide +kernel
theorem erD : M.encR dR = ([126, 197, 1, 5, 192, 7, 1], 0) := by decide +kernel
theorem erI : M.encR iR = ([], 2) := by decide +kernel
theorem dr0 : M.decR [195, 128, 128, 192] = (zR, 0) := by decide +kernel
theorem drD : M.decR [126, 197, 1, 5, 192, 7, 1] = (dR, 0) := by decide +kernel
theorem drJ : M.decR [3, 192] = (zR, 9) := by decide +kernel
theorem few_nil : FewL [] := ⟨by decide, by simp⟩
abbrev Hdl (w : World) : Prop := w.cell? ⟨0, 0, none⟩ = some (.iface 238 (.agg #[.pointer (some ⟨4, 60, none⟩)]))
theorem Hdl.kept {w W : World} (h : Hdl w) (hb : Below w.heap.size w W) : Hdl W := (hb.cell (p := ⟨0, 0, none⟩) (addr_lt h)).trans h
theorem enc_0 (W : World) : Calls Tryz.prog 9 #[.agg #[.int .i64 0, .bool false, .int .u64 0, .slice none 0 0, .bool false, .int .u64 0, .int .u64 0]] W fun e w' => e = .returned (.tuple #[.string ⟨#[195, 128, 128, 192]⟩, .int .i64 0]) ∧ Below W.heap.size W w' := by
  have := pencode_any zR none 0 W few_nil (by decide) (by decide) (.nil_ (by decide))
  rw [er0] at this
  exact this
theorem enc_D (W : World) : Calls Tryz.prog 9 #[.agg #[.int .i64 126, .bool true, .int .u64 5, .slice none 0 0, .bool true, .int .u64 7, .int .u64 1]] W fun e w' => e = .returned (.tuple #[.string ⟨#[126, 197, 1, 5, 192, 7, 1]⟩, .int .i64 0]) ∧ Below W.heap.size W w' := by
  have := pencode_any dR none 0 W few_nil (by decide) (by decide) (.nil_ (by decide))
  rw [erD] at this
  exact this
theorem enc_I (W : World) : Calls Tryz.prog 9 #[.agg #[.int .i64 0, .bool false, .int .u64 0, .slice none 0 0, .bool true, .int .u64 0, .int .u64 0]] W fun e w' => e = .returned (.tuple #[.string ⟨#[]⟩, .int .i64 2]) ∧ Below W.heap.size W w' := by
  have := pencode_any iR none 0 W few_nil (by decide) (by decide) (.nil_ (by decide))
  rw [erI] at this
  exact this
theorem nil_of {W : World} {n : Nat} {v : Value} (h : Ls W n [] v) : ∃ a c, v = .slice a 0 c ∧ c ≤ maxLen := by
  obtain ⟨a, c, e, _, hm⟩ := h.slice
  exact ⟨a, c, e, hm⟩
theorem dec_0 (W : World) (h : Hdl W) : Calls Tryz.prog 15 #[.string ⟨#[195, 128, 128, 192]⟩] W fun e w' => (∃ a c, e = .returned (.tuple #[.agg #[.int .i64 0, .bool false, .int .u64 0, .slice a 0 c, .bool false, .int .u64 0, .int .u64 0], .int .i64 0]) ∧ c ≤ maxLen) ∧ Below W.heap.size W w' := by
  refine (pdecode_any [195, 128, 128, 192] W h (M.gd_rdI _ _ (Nat.le_trans (by rw [List.length_drop]; exact Nat.sub_le _ _) (by decide))) (by decide)).mono ?_
  rw [dr0]
  rintro e w' ⟨⟨v, rfl, hl⟩, hb⟩
  obtain ⟨a, c, rfl, hm⟩ := nil_of hl
  exact ⟨⟨a, c, rfl, hm⟩, hb⟩
theorem dec_D (W : World) (h : Hdl W) : Calls Tryz.prog 15 #[.string ⟨#[126, 197, 1, 5, 192, 7, 1]⟩] W fun e w' => (∃ a c, e = .returned (.tuple #[.agg #[.int .i64 126, .bool true, .int .u64 5, .slice a 0 c, .bool true, .int .u64 7, .int .u64 1], .int .i64 0]) ∧ c ≤ maxLen) ∧ Below W.heap.size W w' := by
  refine (pdecode_any [126, 197, 1, 5, 192, 7, 1] W h (M.gd_rdI _ _ (Nat.le_trans (by rw [List.length_drop]; exact Nat.sub_le _ _) (by decide))) (by decide)).mono ?_
  rw [drD]
  rintro e w' ⟨⟨v, rfl, hl⟩, hb⟩
  obtain ⟨a, c, rfl, hm⟩ := nil_of hl
  exact ⟨⟨a, c, rfl, hm⟩, hb⟩
theorem dec_J (W : World) (h : Hdl W) : Calls Tryz.prog 15 #[.string ⟨#[3, 192]⟩] W fun e w' => (∃ a c, e = .returned (.tuple #[.agg #[.int .i64 0, .bool false, .int .u64 0, .slice a 0 c, .bool false, .int .u64 0, .int .u64 0], .int .i64 9]) ∧ c ≤ maxLen) ∧ Below W.heap.size W w' := by
  refine (pdecode_any [3, 192] W h (M.gd_rdI _ _ (Nat.le_trans (by rw [List.length_drop]; exact Nat.sub_le _ _) (by decide))) (by decide)).mono ?_
  rw [drJ]
  rintro e w' ⟨⟨v, rfl, hl⟩, hb⟩
  obtain ⟨a, c, rfl, hm⟩ := nil_of hl
  exact ⟨⟨a, c, rfl, hm⟩, hb⟩
theorem same_zz (a b : Option Addr) (c d : Nat) (W : World) (hc : c ≤ maxLen) (hd : d ≤ maxLen) : Calls Tryz.prog 14 #[.agg #[.int .i64 0, .bool false, .int .u64 0, .slice a 0 c, .bool false, .int .u64 0, .int .u64 0], .agg #[.int .i64 0, .bool false, .int .u64 0, .slice b 0 d, .bool false, .int .u64 0, .int .u64 0]] W fun e w' => e = .returned (.bool true) ∧ Below W.heap.size W w' := by
  have := psame_any zR zR a c b d W (.nil_ hc) (.nil_ hd) few_nil
  rw [show M.sameR zR zR = true by decide +kernel] at this
  exact this
theorem same_dd (a b : Option Addr) (c d : Nat) (W : World) (hc : c ≤ maxLen) (hd : d ≤ maxLen) : Calls Tryz.prog 14 #[.agg #[.int .i64 126, .bool true, .int .u64 5, .slice a 0 c, .bool true, .int .u64 7, .int .u64 1], .agg #[.int .i64 126, .bool true, .int .u64 5, .slice b 0 d, .bool true, .int .u64 7, .int .u64 1]] W fun e w' => e = .returned (.bool true) ∧ Below W.heap.size W w' := by
  have := psame_any dR dR a c b d W (.nil_ hc) (.nil_ hd) few_nil
  rw [show M.sameR dR dR = true by decide +kernel] at this
  exact this
theorem same_zd (a b : Option Addr) (c d : Nat) (W : World) (hc : c ≤ maxLen) (hd : d ≤ maxLen) : Calls Tryz.prog 14 #[.agg #[.int .i64 0, .bool false, .int .u64 0, .slice a 0 c, .bool false, .int .u64 0, .int .u64 0], .agg #[.int .i64 126, .bool true, .int .u64 5, .slice b 0 d, .bool true, .int .u64 7, .int .u64 1]] W fun e w' => e = .returned (.bool false) ∧ Below W.heap.size W w' := by
  have := psame_any zR dR a c b d W (.nil_ hc) (.nil_ hd) few_nil
  rw [show M.sameR zR dR = false by decide +kernel] at this
  exact this
theorem check_D (W : World) : Calls Tryz.prog 12 #[.agg #[.int .i64 126, .bool true, .int .u64 5, .slice none 0 0, .bool true, .int .u64 7, .int .u64 1]] W fun e w' => e = .returned (.int .i64 0) ∧ Below W.heap.size W w' := by
  have := pcheck_any dR none 0 W few_nil (.nil_ (by decide))
  rw [show M.chkR dR = 0 by decide +kernel] at this
  exact this
theorem Form_D (W : World) : Calls Tryz.prog 13 #[.agg #[.int .i64 126, .bool true, .int .u64 5, .slice none 0 0, .bool true, .int .u64 7, .int .u64 1]] W fun e w' => e = .returned (.int .i64 2) ∧ Below W.heap.size W w' := form_any 126 5 7 1 true true _ W
theorem Form_Z (a : Option Addr) (c : Nat) (W : World) : Calls Tryz.prog 13 #[.agg #[.int .i64 0, .bool false, .int .u64 0, .slice a 0 c, .bool false, .int .u64 0, .int .u64 0]] W fun e w' => e = .returned (.int .i64 0) ∧ Below W.heap.size W w' := form_any 0 0 0 0 false false _ W
structure B7 (w : World) (g : Nat) (v0 v1 v2 v3 v4 v5 v6 : Value) : Prop where
  c0 : w.cell? ⟨g, 0, none⟩ = some v0
  c1 : w.cell? ⟨g, 1, none⟩ = some v1
  c2 : w.cell? ⟨g, 2, none⟩ = some v2
  c3 : w.cell? ⟨g, 3, none⟩ = some v3
  c4 : w.cell? ⟨g, 4, none⟩ = some v4
  c5 : w.cell? ⟨g, 5, none⟩ = some v5
  c6 : w.cell? ⟨g, 6, none⟩ = some v6
theorem B7.new (w : World) (v0 v1 v2 v3 v4 v5 v6 : Value) (t : TypeId) : B7 (w.alloc (.cells #[v0, v1, v2, v3, v4, v5, v6] t)) w.heap.size v0 v1 v2 v3 v4 v5 v6 :=
  ⟨by simp [go_sem], by simp [go_sem], by simp [go_sem], by simp [go_sem], by simp [go_sem], by simp [go_sem], by simp [go_sem]⟩
theorem B7.from_ {w W : World} {g : Nat} {v0 v1 v2 v3 v4 v5 v6 : Value} (h : B7 w g v0 v1 v2 v3 v4 v5 v6) (hb : Below w.heap.size w W) : B7 W g v0 v1 v2 v3 v4 v5 v6 := by
  have hg : g < w.heap.size := addr_lt h.c0
  exact ⟨(hb.cell (p := ⟨g, 0, none⟩) hg).trans h.c0, (hb.cell (p := ⟨g, 1, none⟩) hg).trans h.c1, (hb.cell (p := ⟨g, 2, none⟩) hg).trans h.c2, (hb.cell (p := ⟨g, 3, none⟩) hg).trans h.c3, (hb.cell (p := ⟨g, 4, none⟩) hg).trans h.c4, (hb.cell (p := ⟨g, 5, none⟩) hg).trans h.c5, (hb.cell (p := ⟨g, 6, none⟩) hg).trans h.c6⟩
set_option maxRecDepth 100000 in
set_option maxHeartbeats 8000000 in
theorem works11 (w : World) (hh : Hdl w) : Calls Tryz.prog 5 #[] w fun e w' => e = .returned (.bool true) ∧ Below w.heap.size w w' := by
  have HH_w := Lib.hid hh
  have HB_w := Lib.hid (Below.refl w.heap.size w)
  clear hh
  go_enter Tryz.func5, Tryz.ntmps5
  go_wp2_with fail
  refine (enc_0 _).mono ?_
  rintro e w1 ⟨rfl, hb_⟩
  have HB_w1 := Lib.hid (HB_w.out.trans (hb_.mono HB_w.out.size))
  have HH_w1 := Lib.hid (HH_w.out.kept hb_)
  clear hb_
  go_wp2_with fail
  refine (dec_0 _ HH_w1.out).mono ?_
  rintro e w2 ⟨⟨a1, k1, rfl, hm1⟩, hb_⟩
  have HB_w2 := Lib.hid (HB_w1.out.trans (hb_.mono HB_w1.out.size))
  have HH_w2 := Lib.hid (HH_w1.out.kept hb_)
  clear hb_
  obtain ⟨g3, hg3⟩ : ∃ g3, w2.heap.size = g3 := ⟨_, rfl⟩
  obtain ⟨w3, hw3⟩ : ∃ w3, w2.alloc (.cells #[.int .i64 0, .bool false, .int .u64 0, .slice a1 0 k1, .bool false, .int .u64 0, .int .u64 0] 25) = w3 := ⟨_, rfl⟩
  have hb_ : Below w2.heap.size w2 w3 := by rw [← hw3]; exact (Below.refl _ _).alloc (Nat.le_refl _) _
  have hx_ := B7.new w2 (.int .i64 0) (.bool false) (.int .u64 0) (.slice a1 0 k1) (.bool false) (.int .u64 0) (.int .u64 0) 25
  rw [hw3, hg3] at hx_
  have HA_w3 := Lib.hid hw3
  have HB_w3 := Lib.hid (HB_w2.out.trans (hb_.mono HB_w2.out.size))
  have HH_w3 := Lib.hid (HH_w2.out.kept hb_)
  have HX3_w3 := Lib.hid hx_
  clear hx_ hb_ hw3
  obtain ⟨g5, hg5⟩ : ∃ g5, w3.heap.size = g5 := ⟨_, rfl⟩
  obtain ⟨w4, hw4⟩ : ∃ w4, w3.alloc (.cells #[.int .i64 126, .bool true, .int .u64 5, .slice none 0 0, .bool true, .int .u64 7, .int .u64 1] 25) = w4 := ⟨_, rfl⟩
  have hb_ : Below w3.heap.size w3 w4 := by rw [← hw4]; exact (Below.refl _ _).alloc (Nat.le_refl _) _
  have hx_ := B7.new w3 (.int .i64 126) (.bool true) (.int .u64 5) (.slice none 0 0) (.bool true) (.int .u64 7) (.int .u64 1) 25
  rw [hw4, hg5] at hx_
  have HA_w4 := Lib.hid hw4
  have HB_w4 := Lib.hid (HB_w3.out.trans (hb_.mono HB_w3.out.size))
  have HH_w4 := Lib.hid (HH_w3.out.kept hb_)
  have HX5_w4 := Lib.hid hx_
  have HX3_w4 := Lib.hid (HX3_w3.out.from_ hb_)
  clear hx_ hb_ hw4
  obtain ⟨p50, p51, p52, p53, p54, p55, p56⟩ := HX5_w4.out
  go_wp2_with (first | rw [HA_w3.out] | rw [HA_w4.out] | rw [hg3] | rw [hg5])
  clear p50 p51 p52 p53 p54 p55 p56
  refine (enc_D _).mono ?_
  rintro e w5 ⟨rfl, hb_⟩
  have HB_w5 := Lib.hid (HB_w4.out.trans (hb_.mono HB_w4.out.size))
  have HH_w5 := Lib.hid (HH_w4.out.kept hb_)
  have HX3_w5 := Lib.hid (HX3_w4.out.from_ hb_)
  have HX5_w5 := Lib.hid (HX5_w4.out.from_ hb_)
  clear hb_
  go_wp2_with fail
  refine (dec_D _ HH_w5.out).mono ?_
  rintro e w6 ⟨⟨a2, k2, rfl, hm2⟩, hb_⟩
  have HB_w6 := Lib.hid (HB_w5.out.trans (hb_.mono HB_w5.out.size))
  have HH_w6 := Lib.hid (HH_w5.out.kept hb_)
  have HX3_w6 := Lib.hid (HX3_w5.out.from_ hb_)
  have HX5_w6 := Lib.hid (HX5_w5.out.from_ hb_)
  clear hb_
  obtain ⟨g8, hg8⟩ : ∃ g8, w6.heap.size = g8 := ⟨_, rfl⟩
  obtain ⟨w7, hw7⟩ : ∃ w7, w6.alloc (.cells #[.int .i64 126, .bool true, .int .u64 5, .slice a2 0 k2, .bool true, .int .u64 7, .int .u64 1] 25) = w7 := ⟨_, rfl⟩
  have hb_ : Below w6.heap.size w6 w7 := by rw [← hw7]; exact (Below.refl _ _).alloc (Nat.le_refl _) _
  have hx_ := B7.new w6 (.int .i64 126) (.bool true) (.int .u64 5) (.slice a2 0 k2) (.bool true) (.int .u64 7) (.int .u64 1) 25
  rw [hw7, hg8] at hx_
  have HA_w7 := Lib.hid hw7
  have HB_w7 := Lib.hid (HB_w6.out.trans (hb_.mono HB_w6.out.size))
  have HH_w7 := Lib.hid (HH_w6.out.kept hb_)
  have HX8_w7 := Lib.hid hx_
  have HX3_w7 := Lib.hid (HX3_w6.out.from_ hb_)
  have HX5_w7 := Lib.hid (HX5_w6.out.from_ hb_)
  clear hx_ hb_ hw7
  go_wp2_with (first | rw [HA_w7.out] | rw [hg8])
  refine (enc_I _).mono ?_
  rintro e w8 ⟨rfl, hb_⟩
  have HB_w8 := Lib.hid (HB_w7.out.trans (hb_.mono HB_w7.out.size))
  have HH_w8 := Lib.hid (HH_w7.out.kept hb_)
  have HX3_w8 := Lib.hid (HX3_w7.out.from_ hb_)
  have HX5_w8 := Lib.hid (HX5_w7.out.from_ hb_)
  have HX8_w8 := Lib.hid (HX8_w7.out.from_ hb_)
  clear hb_
  go_wp2_with fail
  refine (dec_J _ HH_w8.out).mono ?_
  rintro e w9 ⟨⟨a3, k3, rfl, hm3⟩, hb_⟩
  have HB_w9 := Lib.hid (HB_w8.out.trans (hb_.mono HB_w8.out.size))
  have HH_w9 := Lib.hid (HH_w8.out.kept hb_)
  have HX3_w9 := Lib.hid (HX3_w8.out.from_ hb_)
  have HX5_w9 := Lib.hid (HX5_w8.out.from_ hb_)
  have HX8_w9 := Lib.hid (HX8_w8.out.from_ hb_)
  clear hb_
  obtain ⟨g12, hg12⟩ : ∃ g12, w9.heap.size = g12 := ⟨_, rfl⟩
  obtain ⟨w10, hw10⟩ : ∃ w10, w9.alloc (.cells #[.int .i64 0, .bool false, .int .u64 0, .slice a3 0 k3, .bool false, .int .u64 0, .int .u64 0] 25) = w10 := ⟨_, rfl⟩
  have hb_ : Below w9.heap.size w9 w10 := by rw [← hw10]; exact (Below.refl _ _).alloc (Nat.le_refl _) _
  have hx_ := B7.new w9 (.int .i64 0) (.bool false) (.int .u64 0) (.slice a3 0 k3) (.bool false) (.int .u64 0) (.int .u64 0) 25
  rw [hw10, hg12] at hx_
  have HA_w10 := Lib.hid hw10
  have HB_w10 := Lib.hid (HB_w9.out.trans (hb_.mono HB_w9.out.size))
  have HH_w10 := Lib.hid (HH_w9.out.kept hb_)
  have HX3_w10 := Lib.hid (HX3_w9.out.from_ hb_)
  have HX5_w10 := Lib.hid (HX5_w9.out.from_ hb_)
  have HX8_w10 := Lib.hid (HX8_w9.out.from_ hb_)
  clear hx_ hb_ hw10
  obtain ⟨p30, p31, p32, p33, p34, p35, p36⟩ := HX3_w10.out
  go_wp2_with (first | rw [HA_w10.out] | rw [hg12])
  clear p30 p31 p32 p33 p34 p35 p36
  refine (same_zz a1 none k1 0 _ hm1 (by decide)).mono ?_
  rintro e w11 ⟨rfl, hb_⟩
  have HB_w11 := Lib.hid (HB_w10.out.trans (hb_.mono HB_w10.out.size))
  have HH_w11 := Lib.hid (HH_w10.out.kept hb_)
  have HX3_w11 := Lib.hid (HX3_w10.out.from_ hb_)
  have HX5_w11 := Lib.hid (HX5_w10.out.from_ hb_)
  have HX8_w11 := Lib.hid (HX8_w10.out.from_ hb_)
  clear hb_
  obtain ⟨p80, p81, p82, p83, p84, p85, p86⟩ := HX8_w11.out
  obtain ⟨p50, p51, p52, p53, p54, p55, p56⟩ := HX5_w11.out
  go_wp2_with fail
  clear p80 p81 p82 p83 p84 p85 p86
  clear p50 p51 p52 p53 p54 p55 p56
  refine (same_dd a2 none k2 0 _ hm2 (by decide)).mono ?_
  rintro e w12 ⟨rfl, hb_⟩
  have HB_w12 := Lib.hid (HB_w11.out.trans (hb_.mono HB_w11.out.size))
  have HH_w12 := Lib.hid (HH_w11.out.kept hb_)
  have HX3_w12 := Lib.hid (HX3_w11.out.from_ hb_)
  have HX5_w12 := Lib.hid (HX5_w11.out.from_ hb_)
  have HX8_w12 := Lib.hid (HX8_w11.out.from_ hb_)
  clear hb_
  obtain ⟨p50, p51, p52, p53, p54, p55, p56⟩ := HX5_w12.out
  go_wp2_with fail
  clear p50 p51 p52 p53 p54 p55 p56
  refine (Form_D _).mono ?_
  rintro e w13 ⟨rfl, hb_⟩
  have HB_w13 := Lib.hid (HB_w12.out.trans (hb_.mono HB_w12.out.size))
  have HH_w13 := Lib.hid (HH_w12.out.kept hb_)
  have HX3_w13 := Lib.hid (HX3_w12.out.from_ hb_)
  have HX5_w13 := Lib.hid (HX5_w12.out.from_ hb_)
  have HX8_w13 := Lib.hid (HX8_w12.out.from_ hb_)
  clear hb_
  obtain ⟨p30, p31, p32, p33, p34, p35, p36⟩ := HX3_w13.out
  go_wp2_with fail
  clear p30 p31 p32 p33 p34 p35 p36
  refine (Form_Z a1 k1 _).mono ?_
  rintro e w14 ⟨rfl, hb_⟩
  have HB_w14 := Lib.hid (HB_w13.out.trans (hb_.mono HB_w13.out.size))
  have HH_w14 := Lib.hid (HH_w13.out.kept hb_)
  have HX3_w14 := Lib.hid (HX3_w13.out.from_ hb_)
  have HX5_w14 := Lib.hid (HX5_w13.out.from_ hb_)
  have HX8_w14 := Lib.hid (HX8_w13.out.from_ hb_)
  clear hb_
  obtain ⟨p50, p51, p52, p53, p54, p55, p56⟩ := HX5_w14.out
  go_wp2_with fail
  clear p50 p51 p52 p53 p54 p55 p56
  refine (check_D _).mono ?_
  rintro e w15 ⟨rfl, hb_⟩
  have HB_w15 := Lib.hid (HB_w14.out.trans (hb_.mono HB_w14.out.size))
  have HH_w15 := Lib.hid (HH_w14.out.kept hb_)
  have HX3_w15 := Lib.hid (HX3_w14.out.from_ hb_)
  have HX5_w15 := Lib.hid (HX5_w14.out.from_ hb_)
  have HX8_w15 := Lib.hid (HX8_w14.out.from_ hb_)
  clear hb_
  obtain ⟨p30, p31, p32, p33, p34, p35, p36⟩ := HX3_w15.out
  obtain ⟨p80, p81, p82, p83, p84, p85, p86⟩ := HX8_w15.out
  go_wp2_with fail
  clear p30 p31 p32 p33 p34 p35 p36
  clear p80 p81 p82 p83 p84 p85 p86
  refine (same_zd a1 a2 k1 k2 _ hm1 hm2).mono ?_
  rintro e w16 ⟨rfl, hb_⟩
  have HB_w16 := Lib.hid (HB_w15.out.trans (hb_.mono HB_w15.out.size))
  have HH_w16 := Lib.hid (HH_w15.out.kept hb_)
  clear hb_
  go_wp2_with fail
  go_ret
  exact ⟨rfl, HB_w16.out⟩
end Go.Proofs.YtebjhbeaknokkaaGreatDoor
namespace Go.Proofs.YtebjhbeaknokkaaGreatDoor
open Go Go.RowKit Go.Lib
attribute [local go_sem] Oper.semAt_some

def M.fewG (g : M.Lg) : Prop := ¬ (300 < g.data.length ∧ g.data.length ≤ 4096) ∧ g.topics.length ≤ 10 ∧ g.addr.length ≤ 100 ∧ ∀ t ∈ g.topics, t.length ≤ 100
def M.fewX (ls : List M.Lg) : Prop := ls.length ≤ 20 ∧ ∀ g ∈ ls, M.fewG g
def FewPost (ls : List M.Lg) (e : Ending) : Prop := ∃ q, e = .returned (.bool q) ∧ (q = true → M.fewX ls)
theorem FewPost.no (ls : List M.Lg) : FewPost ls (.returned (.bool false)) := ⟨_, rfl, fun e => by cases e⟩
end Go.Proofs.YtebjhbeaknokkaaGreatDoor
namespace Go.Proofs.YtebjhbeaknokkaaGreatDoor
open Go Go.RowKit Go.Lib
attribute [local go_sem] Oper.semAt_some

def M.manyK (k : Int) : Nat := if k = 0 then 9 else if k = 1 then 11 else if k = 2 then 12 else if k = 4 then 13 else if k = 126 then 8 else 0
set_option maxRecDepth 100000 in
theorem rmany_any (k : Int) (w : World) : Calls Tryz.prog 17 #[.int .i64 k] w fun e w' => e = .returned (.int .i64 (M.manyK k : Nat)) ∧ Below w.heap.size w w' := by
  by_cases h0 : k = 0
  · subst h0
    go_enter Tryz.func17, Tryz.ntmps17
    go_wp2_with fail
    go_ret
    exact ⟨rfl, Below.refl _ _⟩
  · by_cases h1 : k = 1
    · subst h1
      go_enter Tryz.func17, Tryz.ntmps17
      go_wp2_with fail
      go_ret
      exact ⟨rfl, Below.refl _ _⟩
    · by_cases h2 : k = 2
      · subst h2
        go_enter Tryz.func17, Tryz.ntmps17
        go_wp2_with fail
        go_ret
        exact ⟨rfl, Below.refl _ _⟩
      · by_cases h4 : k = 4
        · subst h4
          go_enter Tryz.func17, Tryz.ntmps17
          go_wp2_with fail
          go_ret
          exact ⟨rfl, Below.refl _ _⟩
        · by_cases h6 : k = 126
          · subst h6
            go_enter Tryz.func17, Tryz.ntmps17
            go_wp2_with fail
            go_ret
            exact ⟨rfl, Below.refl _ _⟩
          · have e : M.manyK k = 0 := by unfold M.manyK; simp [h0, h1, h2, h4, h6]
            rw [e]
            have e0 : (k == 0) = false := by simpa using h0
            have e1 : (k == 1) = false := by simpa using h1
            have e2 : (k == 2) = false := by simpa using h2
            have e4 : (k == 4) = false := by simpa using h4
            have e6 : (k == 126) = false := by simpa using h6
            go_enter Tryz.func17, Tryz.ntmps17
            go_wp2_with fail
            go_ret
            exact ⟨rfl, Below.refl _ _⟩
theorem M.manyK_zero (k : Int) : M.manyK k = 0 ↔ M.kdB k = false := by
  unfold M.manyK M.kdB
  by_cases h0 : k = 0
  · simp [h0]
  · by_cases h1 : k = 1
    · simp [h1]
    · by_cases h2 : k = 2
      · simp [h2]
      · by_cases h4 : k = 4
        · simp [h4]
        · by_cases h6 : k = 126
          · simp [h6]
          · simp [h0, h1, h2, h4, h6]
end Go.Proofs.YtebjhbeaknokkaaGreatDoor
namespace Go.Proofs.YtebjhbeaknokkaaGreatDoor
open Go Go.RowKit Go.Lib
attribute [local go_sem] Oper.semAt_some

theorem M.rText_eq (n : Int) (l : Bool) (d : List UInt8) (xs : List M.It) : rText n (.mk l d xs) = if l = true ∨ (d.length : Int) ≠ n then ([], 2) else (d, 0) := by
  unfold rText
  cases l with
  | true => rfl
  | false =>
    show (if (M.gText n n d).2 = 0 then ((M.gText n n d).1, 0) else ([], 2)) = _
    unfold M.gText M.within
    by_cases h : (d.length : Int) = n
    · simp [h]
    · by_cases h1 : (d.length : Int) < n
      · simp [h, h1]
      · have h2 : n < d.length := by omega
        simp [h, h1, h2]
set_option maxRecDepth 100000 in
theorem rlong_any (l : Bool) (d : List UInt8) (xs : List M.It) (v : Value) (n : Int) (w : World) :
    Calls Tryz.prog 191 #[iv l d v, .int .i64 n] w fun e w' => e = .returned (.tuple #[.string ⟨(rText n (.mk l d xs)).1.toArray⟩, .int .i64 ((rText n (.mk l d xs)).2 : Nat)]) ∧ Below w.heap.size w w' := by
  have hbx := Box.new w l d v 44
  obtain ⟨w0, hw0⟩ : ∃ w0, w.alloc (.cells #[.bool l, .string ⟨d.toArray⟩, v] 44) = w0 := ⟨_, rfl⟩
  have hb0 : Below w.heap.size w w0 := by rw [← hw0]; exact (Below.refl _ _).alloc (Nat.le_refl _) _
  rw [hw0] at hbx
  have p0 := hbx.c0
  have p1 := hbx.c1
  have HB := Lib.hid hb0
  have HW := Lib.hid hw0
  rw [M.rText_eq]
  clear hbx hw0 hb0
  cases l with
  | true =>
    rw [if_pos (.inl rfl)]
    go_enter Tryz.func191, Tryz.ntmps191
    go_wp2_with (rw [HW.out])
    go_ret2
    exact ⟨rfl, HB.out⟩
  | false =>
    by_cases h : (d.length : Int) = n
    · rw [if_neg (by simp [h])]
      have h1 : (((d.length : Nat) : Int) == n) = true := by simpa using h
      have h2 : (((d.length : Nat) : Int) != n) = false := by simp [h]
      subst h
      go_enter Tryz.func191, Tryz.ntmps191
      go_wp2_with (rw [HW.out])
      go_ret2
      exact ⟨rfl, HB.out⟩
    · rw [if_pos (.inr h)]
      have h1 : (((d.length : Nat) : Int) == n) = false := by simpa using h
      have h2 : (((d.length : Nat) : Int) != n) = true := by simp [h]
      go_enter Tryz.func191, Tryz.ntmps191
      go_wp2_with (rw [HW.out])
      go_ret2
      exact ⟨rfl, HB.out⟩
def M.firstE : List Nat → Nat
  | [] => 0
  | e :: es => if e ≠ 0 then e else M.firstE es
theorem M.firstE_take {es : List Nat} {k : Nat} (h : ∀ e ∈ es.take k, e = 0) : M.firstE es = M.firstE (es.drop k) := by
  induction k generalizing es with
  | zero => rfl
  | succ k ih =>
    cases es with
    | nil => rfl
    | cons e es =>
      have h0 : e = 0 := h e (by simp)
      rw [M.firstE, if_neg (by simp [h0]), List.drop_succ_cons]
      exact ih fun x hx => h x (by rw [List.take_succ_cons]; exact List.mem_cons_of_mem _ hx)
end Go.Proofs.YtebjhbeaknokkaaGreatDoor
namespace Go.Proofs.YtebjhbeaknokkaaGreatDoor
open Go Go.RowKit Go.Lib
attribute [local go_sem] Oper.semAt_some

theorem M.getList_f (x y : Int) (d : List UInt8) (xs : List M.It) : M.getList x y (.mk false d xs) = ([], 2) := rfl
theorem M.getList_t (x y : Int) (d : List UInt8) (xs : List M.It) : M.getList x y (.mk true d xs) = if (xs.length : Int) < x then ([], 3) else if y < xs.length then ([], 5) else (xs, 0) := by
  show (if M.within xs.length x y ≠ 0 then ([], M.within xs.length x y) else (xs, 0)) = _
  unfold M.within
  split
  · rfl
  · split <;> rfl
theorem M.getText_t (x y : Int) (d : List UInt8) (xs : List M.It) : M.getText x y (.mk true d xs) = ([], 2) := rfl
theorem M.getText_f (x y : Int) (d : List UInt8) (xs : List M.It) : M.getText x y (.mk false d xs) = if (d.length : Int) < x then ([], 3) else if y < d.length then ([], 5) else (d, 0) := by
  show M.gText x y d = _
  unfold M.gText M.within
  split
  · rfl
  · split <;> rfl
set_option maxRecDepth 100000 in
theorem rgl_any (l : Bool) (d : List UInt8) (xs : List M.It) (a : Option Addr) (cap : Nat) (x y : Int) (w : World) :
    Calls Tryz.prog 37 #[iv l d (.slice a xs.length cap), .int .i64 x, .int .i64 y] w fun e w' => e = .returned (.tuple #[if (M.getList x y (.mk l d xs)).2 = 0 then .slice a xs.length cap else .slice none 0 0, .int .i64 ((M.getList x y (.mk l d xs)).2 : Nat)]) ∧ Below w.heap.size w w' := by
  have hbx := Box.new w l d (.slice a xs.length cap) 44
  obtain ⟨w0, hw0⟩ : ∃ w0, w.alloc (.cells #[.bool l, .string ⟨d.toArray⟩, .slice a xs.length cap] 44) = w0 := ⟨_, rfl⟩
  have hb0 : Below w.heap.size w w0 := by rw [← hw0]; exact (Below.refl _ _).alloc (Nat.le_refl _) _
  rw [hw0] at hbx
  have p0 := hbx.c0
  have p1 := hbx.c1
  have p2 := hbx.c2
  have HB := Lib.hid hb0
  have HW := Lib.hid hw0
  clear hbx hw0 hb0
  cases l with
  | false =>
    rw [M.getList_f, if_neg (by decide)]
    go_enter Tryz.func37, Tryz.ntmps37
    go_wp2_with (rw [HW.out])
    go_ret2
    exact ⟨rfl, HB.out⟩
  | true =>
    rw [M.getList_t]
    by_cases h1 : (xs.length : Int) < x
    · rw [if_pos h1, if_neg (by decide)]
      go_enter Tryz.func37, Tryz.ntmps37
      go_wp2_with (rw [HW.out])
      go_ret2
      exact ⟨rfl, HB.out⟩
    · rw [if_neg h1]
      by_cases h2 : y < (xs.length : Int)
      · rw [if_pos h2, if_neg (by decide)]
        go_enter Tryz.func37, Tryz.ntmps37
        go_wp2_with (rw [HW.out])
        go_ret2
        exact ⟨rfl, HB.out⟩
      · rw [if_neg h2, if_pos rfl]
        go_enter Tryz.func37, Tryz.ntmps37
        go_wp2_with (rw [HW.out])
        go_ret2
        exact ⟨rfl, HB.out⟩
set_option maxRecDepth 100000 in
theorem rgt_any (l : Bool) (d : List UInt8) (xs : List M.It) (a : Option Addr) (cap : Nat) (x y : Int) (w : World) :
    Calls Tryz.prog 193 #[iv l d (.slice a xs.length cap), .int .i64 x, .int .i64 y] w fun e w' => e = .returned (.tuple #[.string ⟨(M.getText x y (.mk l d xs)).1.toArray⟩, .int .i64 ((M.getText x y (.mk l d xs)).2 : Nat)]) ∧ Below w.heap.size w w' := by
  have hbx := Box.new w l d (.slice a xs.length cap) 44
  obtain ⟨w0, hw0⟩ : ∃ w0, w.alloc (.cells #[.bool l, .string ⟨d.toArray⟩, .slice a xs.length cap] 44) = w0 := ⟨_, rfl⟩
  have hb0 : Below w.heap.size w w0 := by rw [← hw0]; exact (Below.refl _ _).alloc (Nat.le_refl _) _
  rw [hw0] at hbx
  have p0 := hbx.c0
  have p1 := hbx.c1
  have p2 := hbx.c2
  have HB := Lib.hid hb0
  have HW := Lib.hid hw0
  clear hbx hw0 hb0
  cases l with
  | true =>
    rw [M.getText_t]
    go_enter Tryz.func193, Tryz.ntmps193
    go_wp2_with (rw [HW.out])
    go_ret2
    exact ⟨rfl, HB.out⟩
  | false =>
    rw [M.getText_f]
    by_cases h1 : (d.length : Int) < x
    · rw [if_pos h1]
      go_enter Tryz.func193, Tryz.ntmps193
      go_wp2_with (rw [HW.out])
      go_ret2
      exact ⟨rfl, HB.out⟩
    · rw [if_neg h1]
      by_cases h2 : y < (d.length : Int)
      · rw [if_pos h2]
        go_enter Tryz.func193, Tryz.ntmps193
        go_wp2_with (rw [HW.out])
        go_ret2
        exact ⟨rfl, HB.out⟩
      · rw [if_neg h2]
        go_enter Tryz.func193, Tryz.ntmps193
        go_wp2_with (rw [HW.out])
        go_ret2
        exact ⟨rfl, HB.out⟩
set_option maxRecDepth 100000 in
set_option maxHeartbeats 1000000 in
theorem rgb_any (l : Bool) (d : List UInt8) (xs : List M.It) (a : Option Addr) (cap : Nat) (w : World) :
    Calls Tryz.prog 71 #[iv l d (.slice a xs.length cap)] w fun e w' => e = .returned (.tuple #[.bool (M.getBool (.mk l d xs)).1, .int .i64 ((M.getBool (.mk l d xs)).2 : Nat)]) ∧ Below w.heap.size w w' := by
  have hbx := Box.new w l d (.slice a xs.length cap) 44
  obtain ⟨w0, hw0⟩ : ∃ w0, w.alloc (.cells #[.bool l, .string ⟨d.toArray⟩, .slice a xs.length cap] 44) = w0 := ⟨_, rfl⟩
  have hb0 : Below w.heap.size w w0 := by rw [← hw0]; exact (Below.refl _ _).alloc (Nat.le_refl _) _
  rw [hw0] at hbx
  have p0 := hbx.c0
  have p1 := hbx.c1
  have p2 := hbx.c2
  have HB := Lib.hid hb0
  have HW := Lib.hid hw0
  clear hbx hw0 hb0
  cases l with
  | true =>
    have e0 : M.getBool (.mk true d xs) = (false, 2) := rfl
    rw [e0]
    go_enter Tryz.func71, Tryz.ntmps71
    go_wp2_with (rw [HW.out])
    go_ret2
    exact ⟨rfl, HB.out⟩
  | false =>
    have e0 : M.getBool (.mk false d xs) = if d = [] then (false, 0) else if d = [1] then (true, 0) else (false, 2) := rfl
    rw [e0]
    by_cases h1 : d = []
    · subst h1
      rw [if_pos rfl]
      go_enter Tryz.func71, Tryz.ntmps71
      go_wp2_with (rw [HW.out])
      go_ret2
      exact ⟨rfl, HB.out⟩
    · rw [if_neg h1]
      have n1 : d.isEmpty = false := by cases d with
        | nil => exact absurd rfl h1
        | cons => rfl
      have h1c : (w0.alloc (.cells #[.int .u8 1] 5)).cell? ⟨w0.heap.size, 0, none⟩ = some (.int .u8 1) := by simp [go_sem]
      have hcv : (convert 75 9 (.slice (some ⟨w0.heap.size, 0, none⟩) 1 1)).run Tryz.prog (w0.alloc (.cells #[.int .u8 1] 5)) = .ok (.string ⟨#[1]⟩) (w0.alloc (.cells #[.int .u8 1] 5)) := conv_at [1] (w0.alloc (.cells #[.int .u8 1] 5)) w0.heap.size (fun j hj => by match j, hj with | 0, _ => exact h1c)
      have q1 : (w0.alloc (.cells #[.int .u8 1] 5)).cell? ⟨w.heap.size, 1, none⟩ = some (.string ⟨d.toArray⟩) := (World.cell?_alloc_old _ _ _ (Nat.ne_of_lt (addr_lt p1))).trans p1
      have HB1 := Lib.hid (HB.out.alloc HB.out.size (.cells #[.int .u8 1] 5))
      by_cases h2 : d = [1]
      · subst h2
        rw [if_pos rfl]
        go_enter Tryz.func71, Tryz.ntmps71
        go_wp2_with (rw [HW.out])
        go_ret2
        exact ⟨rfl, HB1.out⟩
      · rw [if_neg h2]
        have m1 : (d == [1]) = false := by simpa using h2
        go_enter Tryz.func71, Tryz.ntmps71
        go_wp2_with (rw [HW.out])
        go_ret2
        exact ⟨rfl, HB1.out⟩
end Go.Proofs.YtebjhbeaknokkaaGreatDoor
namespace Go.Proofs.YtebjhbeaknokkaaGreatDoor
open Go Go.RowKit

def rpv (d : Nat → Int) (q : Nat) : Nat → Int
  | 0 => 0
  | k + 1 => if k / 8 = q then rpv d q k + d k * ((256 ^ (k % 8) : Nat) : Int) else rpv d q k

theorem pv_same (d : Nat → Int) (q k : Nat) (h : ¬ k / 8 = q) : rpv d q (k + 1) = rpv d q k := by rw [rpv, if_neg h]
theorem pv_step (d : Nat → Int) (q k : Nat) (h : k / 8 = q) : rpv d q (k + 1) = rpv d q k + d k * ((256 ^ (k % 8) : Nat) : Int) := by rw [rpv, if_pos h]
theorem pv_in (d : Nat → Int) (hd : ∀ j, 0 ≤ d j ∧ d j < 256) (q : Nat) : ∀ k, 0 ≤ rpv d q k ∧ rpv d q k < ((256 ^ (if k / 8 = q then k % 8 else if k / 8 < q then 0 else 8) : Nat) : Int)
  | 0 => by
    refine ⟨Int.le_refl _, ?_⟩
    rw [rpv]
    exact Int.ofNat_lt.2 (Nat.pow_pos (by omega))
  | k + 1 => by
    have ih := pv_in d hd q k
    have hk := hd k
    by_cases h : k / 8 = q
    · rw [pv_step d q k h]
      rw [if_pos h] at ih
      have hp : (0 : Int) ≤ ((256 ^ (k % 8) : Nat) : Int) := by omega
      have e1 : d k * ((256 ^ (k % 8) : Nat) : Int) ≤ 255 * ((256 ^ (k % 8) : Nat) : Int) := Int.mul_le_mul_of_nonneg_right (by omega) hp
      have e0 : 0 ≤ d k * ((256 ^ (k % 8) : Nat) : Int) := Int.mul_nonneg hk.1 hp
      have e2 : ((256 ^ (k % 8 + 1) : Nat) : Int) = 256 * ((256 ^ (k % 8) : Nat) : Int) := by rw [Nat.pow_succ]; omega
      refine ⟨by omega, ?_⟩
      by_cases h8 : k % 8 = 7
      · have e3 : ((256 ^ 8 : Nat) : Int) = 256 * ((256 ^ (k % 8) : Nat) : Int) := by rw [h8]; rfl
        rw [if_neg (by omega), if_neg (by omega), e3]
        omega
      · rw [if_pos (by omega), show (k + 1) % 8 = k % 8 + 1 by omega, e2]
        omega
    · rw [pv_same d q k h]
      rw [if_neg h] at ih
      refine ⟨ih.1, Int.lt_of_lt_of_le ih.2 ?_⟩
      have hle : (if k / 8 < q then 0 else 8) ≤ (if (k + 1) / 8 = q then (k + 1) % 8 else if (k + 1) / 8 < q then 0 else 8) := by
        by_cases h1 : k / 8 < q
        · rw [if_pos h1]; omega
        · rw [if_neg h1, if_neg (by omega), if_neg (by omega)]
          exact Nat.le_refl _
      exact Int.ofNat_le.2 (Nat.pow_le_pow_right (by omega) hle)
theorem pv_wrap (d : Nat → Int) (hd : ∀ j, 0 ≤ d j ∧ d j < 256) (q k : Nat) (h : k / 8 = q) : IntKind.u64.wrap (rpv d q k + d k * ((256 ^ (k % 8) : Nat) : Int)) = rpv d q (k + 1) := by
  rw [← pv_step d q k h, IntKind.wrap_u64]
  have hb := pv_in d hd q (k + 1)
  have hle : (256 ^ (if (k + 1) / 8 = q then (k + 1) % 8 else if (k + 1) / 8 < q then 0 else 8) : Nat) ≤ 256 ^ 8 := Nat.pow_le_pow_right (by omega) (by split <;> (try split) <;> omega)
  have h8 : (256 : Nat) ^ 8 = 18446744073709551616 := rfl
  rw [h8] at hle
  omega
theorem dm_wrap (x : Int) (m : Int) (hx : 0 ≤ x ∧ x < 256) (hm : 0 ≤ m ∧ m ≤ 72057594037927936) : IntKind.u64.wrap (x * m) = x * m := by
  rw [IntKind.wrap_u64]
  have e0 : 0 ≤ x * m := Int.mul_nonneg hx.1 hm.1
  have e1 : x * m ≤ 255 * 72057594037927936 := Int.mul_le_mul (by omega) hm.2 hm.1 (by omega)
  omega
theorem d_wrap (x : Int) (hx : 0 ≤ x ∧ x < 256) : IntKind.u64.wrap x = x := by rw [IntKind.wrap_u64]; omega

set_option maxRecDepth 100000 in
set_option maxHeartbeats 16000000 in
theorem of_core (g cap : Nat) (d : Nat → Int) (w : World) (hc : Hid (∀ j, j < 32 → w.cell? ⟨g, j, none⟩ = some (.int .i64 (d j)))) (hg : g < w.heap.size) (hd : Hid (∀ j, 0 ≤ d j ∧ d j < 256)) :
    Calls Tryz.prog 274 #[.slice (some ⟨g, 0, none⟩) 32 cap] w fun e w' => e = .returned (wd (rpv d 0 32) (rpv d 1 32) (rpv d 2 32) (rpv d 3 32)) ∧ Below w.heap.size w w' := by
  go_enter Tryz.func274, Tryz.ntmps274
  go_wp2_with fail
  go_loopw [4] (fun i wr => ∃ k : Nat, k ≤ 32 ∧ i = .int .i64 (k : Int) ∧ C4 wr (w.heap.size + 1) (rpv d 0 k) (rpv d 1 k) (rpv d 2 k) (rpv d 3 k) ∧ C4 wr w.heap.size 0 0 0 0 ∧ Below w.heap.size w wr) (fun i _ => 32 - (intOf i).toNat)
  case atStart =>
    refine ⟨0, by omega, rfl, ⟨?_, ?_, ?_, ?_, ?_, ?_, ?_, ?_⟩, ⟨?_, ?_, ?_, ?_, ?_, ?_, ?_, ?_⟩, ?_⟩
    all_goals first | (simp [go_sem, rpv]; done) | (repeat (first | exact Below.refl _ _ | refine Below.drew ?_ | refine Below.alloc ?_ (by first | omega | (simp; omega) | simp) _ | refine Below.setCell ?_ (by first | omega | (simp; omega) | simp) _))
  case round =>
    obtain ⟨k, hk, rfl, hC, hR, hB⟩ := hrel
    match k, hk, hC with
    | 0, _, hC =>
      have kc := (hB.cell (p := ⟨g, 0, none⟩) hg).trans (hc.out 0 (by omega))
      have hw := d_wrap (d 0) (hd.out 0)
      have hs : IntKind.u64.wrap (rpv d 0 0 + d 0) = rpv d 0 1 := by
        have h := pv_wrap d hd.out 0 0 rfl
        rw [show ((256 ^ (0 % 8) : Nat) : Int) = 1 from rfl, Int.mul_one] at h
        exact h
      obtain ⟨c0, c1, c2, c3, f0, f1, f2, f3⟩ := id hC
      go_wp2_with fail
      go_region
      go_wp2_with fail
      obtain ⟨C, R, B⟩ := C4.step0 (v := rpv d 0 1) hC hR hB
      rw [← pv_same d 1 0 (by decide), ← pv_same d 2 0 (by decide), ← pv_same d 3 0 (by decide)] at C
      refine ⟨⟨1, by omega, rfl, C, R, B⟩, by simp [intOf]⟩
    | 1, _, hC =>
      have kc := (hB.cell (p := ⟨g, 1, none⟩) hg).trans (hc.out 1 (by omega))
      have hw := d_wrap (d 1) (hd.out 1)
      have hm : IntKind.u64.wrap (d 1 * 256) = d 1 * 256 := dm_wrap (d 1) 256 (hd.out 1) (by omega)
      have hs : IntKind.u64.wrap (rpv d 0 1 + d 1 * 256) = rpv d 0 2 := by
        have h := pv_wrap d hd.out 0 1 rfl
        rw [show ((256 ^ (1 % 8) : Nat) : Int) = 256 from rfl] at h
        exact h
      obtain ⟨c0, c1, c2, c3, f0, f1, f2, f3⟩ := id hC
      go_wp2_with fail
      go_region
      go_wp2_with fail
      obtain ⟨C, R, B⟩ := C4.step0 (v := rpv d 0 2) hC hR hB
      rw [← pv_same d 1 1 (by decide), ← pv_same d 2 1 (by decide), ← pv_same d 3 1 (by decide)] at C
      refine ⟨⟨2, by omega, rfl, C, R, B⟩, by simp [intOf]⟩
    | 2, _, hC =>
      have kc := (hB.cell (p := ⟨g, 2, none⟩) hg).trans (hc.out 2 (by omega))
      have hw := d_wrap (d 2) (hd.out 2)
      have hm : IntKind.u64.wrap (d 2 * 65536) = d 2 * 65536 := dm_wrap (d 2) 65536 (hd.out 2) (by omega)
      have hs : IntKind.u64.wrap (rpv d 0 2 + d 2 * 65536) = rpv d 0 3 := by
        have h := pv_wrap d hd.out 0 2 rfl
        rw [show ((256 ^ (2 % 8) : Nat) : Int) = 65536 from rfl] at h
        exact h
      obtain ⟨c0, c1, c2, c3, f0, f1, f2, f3⟩ := id hC
      go_wp2_with fail
      go_region
      go_wp2_with fail
      obtain ⟨C, R, B⟩ := C4.step0 (v := rpv d 0 3) hC hR hB
      rw [← pv_same d 1 2 (by decide), ← pv_same d 2 2 (by decide), ← pv_same d 3 2 (by decide)] at C
      refine ⟨⟨3, by omega, rfl, C, R, B⟩, by simp [intOf]⟩
    | 3, _, hC =>
      have kc := (hB.cell (p := ⟨g, 3, none⟩) hg).trans (hc.out 3 (by omega))
      have hw := d_wrap (d 3) (hd.out 3)
      have hm : IntKind.u64.wrap (d 3 * 16777216) = d 3 * 16777216 := dm_wrap (d 3) 16777216 (hd.out 3) (by omega)
      have hs : IntKind.u64.wrap (rpv d 0 3 + d 3 * 16777216) = rpv d 0 4 := by
        have h := pv_wrap d hd.out 0 3 rfl
        rw [show ((256 ^ (3 % 8) : Nat) : Int) = 16777216 from rfl] at h
        exact h
      obtain ⟨c0, c1, c2, c3, f0, f1, f2, f3⟩ := id hC
      go_wp2_with fail
      go_region
      go_wp2_with fail
      obtain ⟨C, R, B⟩ := C4.step0 (v := rpv d 0 4) hC hR hB
      rw [← pv_same d 1 3 (by decide), ← pv_same d 2 3 (by decide), ← pv_same d 3 3 (by decide)] at C
      refine ⟨⟨4, by omega, rfl, C, R, B⟩, by simp [intOf]⟩
    | 4, _, hC =>
      have kc := (hB.cell (p := ⟨g, 4, none⟩) hg).trans (hc.out 4 (by omega))
      have hw := d_wrap (d 4) (hd.out 4)
      have hm : IntKind.u64.wrap (d 4 * 4294967296) = d 4 * 4294967296 := dm_wrap (d 4) 4294967296 (hd.out 4) (by omega)
      have hs : IntKind.u64.wrap (rpv d 0 4 + d 4 * 4294967296) = rpv d 0 5 := by
        have h := pv_wrap d hd.out 0 4 rfl
        rw [show ((256 ^ (4 % 8) : Nat) : Int) = 4294967296 from rfl] at h
        exact h
      obtain ⟨c0, c1, c2, c3, f0, f1, f2, f3⟩ := id hC
      go_wp2_with fail
      go_region
      go_wp2_with fail
      obtain ⟨C, R, B⟩ := C4.step0 (v := rpv d 0 5) hC hR hB
      rw [← pv_same d 1 4 (by decide), ← pv_same d 2 4 (by decide), ← pv_same d 3 4 (by decide)] at C
      refine ⟨⟨5, by omega, rfl, C, R, B⟩, by simp [intOf]⟩
    | 5, _, hC =>
      have kc := (hB.cell (p := ⟨g, 5, none⟩) hg).trans (hc.out 5 (by omega))
      have hw := d_wrap (d 5) (hd.out 5)
      have hm : IntKind.u64.wrap (d 5 * 1099511627776) = d 5 * 1099511627776 := dm_wrap (d 5) 1099511627776 (hd.out 5) (by omega)
      have hs : IntKind.u64.wrap (rpv d 0 5 + d 5 * 1099511627776) = rpv d 0 6 := by
        have h := pv_wrap d hd.out 0 5 rfl
        rw [show ((256 ^ (5 % 8) : Nat) : Int) = 1099511627776 from rfl] at h
        exact h
      obtain ⟨c0, c1, c2, c3, f0, f1, f2, f3⟩ := id hC
      go_wp2_with fail
      go_region
      go_wp2_with fail
      obtain ⟨C, R, B⟩ := C4.step0 (v := rpv d 0 6) hC hR hB
      rw [← pv_same d 1 5 (by decide), ← pv_same d 2 5 (by decide), ← pv_same d 3 5 (by decide)] at C
      refine ⟨⟨6, by omega, rfl, C, R, B⟩, by simp [intOf]⟩
    | 6, _, hC =>
      have kc := (hB.cell (p := ⟨g, 6, none⟩) hg).trans (hc.out 6 (by omega))
      have hw := d_wrap (d 6) (hd.out 6)
      have hm : IntKind.u64.wrap (d 6 * 281474976710656) = d 6 * 281474976710656 := dm_wrap (d 6) 281474976710656 (hd.out 6) (by omega)
      have hs : IntKind.u64.wrap (rpv d 0 6 + d 6 * 281474976710656) = rpv d 0 7 := by
        have h := pv_wrap d hd.out 0 6 rfl
        rw [show ((256 ^ (6 % 8) : Nat) : Int) = 281474976710656 from rfl] at h
        exact h
      obtain ⟨c0, c1, c2, c3, f0, f1, f2, f3⟩ := id hC
      go_wp2_with fail
      go_region
      go_wp2_with fail
      obtain ⟨C, R, B⟩ := C4.step0 (v := rpv d 0 7) hC hR hB
      rw [← pv_same d 1 6 (by decide), ← pv_same d 2 6 (by decide), ← pv_same d 3 6 (by decide)] at C
      refine ⟨⟨7, by omega, rfl, C, R, B⟩, by simp [intOf]⟩
    | 7, _, hC =>
      have kc := (hB.cell (p := ⟨g, 7, none⟩) hg).trans (hc.out 7 (by omega))
      have hw := d_wrap (d 7) (hd.out 7)
      have hm : IntKind.u64.wrap (d 7 * 72057594037927936) = d 7 * 72057594037927936 := dm_wrap (d 7) 72057594037927936 (hd.out 7) (by omega)
      have hs : IntKind.u64.wrap (rpv d 0 7 + d 7 * 72057594037927936) = rpv d 0 8 := by
        have h := pv_wrap d hd.out 0 7 rfl
        rw [show ((256 ^ (7 % 8) : Nat) : Int) = 72057594037927936 from rfl] at h
        exact h
      obtain ⟨c0, c1, c2, c3, f0, f1, f2, f3⟩ := id hC
      go_wp2_with fail
      go_region
      go_wp2_with fail
      obtain ⟨C, R, B⟩ := C4.step0 (v := rpv d 0 8) hC hR hB
      rw [← pv_same d 1 7 (by decide), ← pv_same d 2 7 (by decide), ← pv_same d 3 7 (by decide)] at C
      refine ⟨⟨8, by omega, rfl, C, R, B⟩, by simp [intOf]⟩
    | 8, _, hC =>
      have kc := (hB.cell (p := ⟨g, 8, none⟩) hg).trans (hc.out 8 (by omega))
      have hw := d_wrap (d 8) (hd.out 8)
      have hs : IntKind.u64.wrap (rpv d 1 8 + d 8) = rpv d 1 9 := by
        have h := pv_wrap d hd.out 1 8 rfl
        rw [show ((256 ^ (8 % 8) : Nat) : Int) = 1 from rfl, Int.mul_one] at h
        exact h
      obtain ⟨c0, c1, c2, c3, f0, f1, f2, f3⟩ := id hC
      go_wp2_with fail
      go_region
      go_wp2_with fail
      obtain ⟨C, R, B⟩ := C4.step1 (v := rpv d 1 9) hC hR hB
      rw [← pv_same d 0 8 (by decide), ← pv_same d 2 8 (by decide), ← pv_same d 3 8 (by decide)] at C
      refine ⟨⟨9, by omega, rfl, C, R, B⟩, by simp [intOf]⟩
    | 9, _, hC =>
      have kc := (hB.cell (p := ⟨g, 9, none⟩) hg).trans (hc.out 9 (by omega))
      have hw := d_wrap (d 9) (hd.out 9)
      have hm : IntKind.u64.wrap (d 9 * 256) = d 9 * 256 := dm_wrap (d 9) 256 (hd.out 9) (by omega)
      have hs : IntKind.u64.wrap (rpv d 1 9 + d 9 * 256) = rpv d 1 10 := by
        have h := pv_wrap d hd.out 1 9 rfl
        rw [show ((256 ^ (9 % 8) : Nat) : Int) = 256 from rfl] at h
        exact h
      obtain ⟨c0, c1, c2, c3, f0, f1, f2, f3⟩ := id hC
      go_wp2_with fail
      go_region
      go_wp2_with fail
      obtain ⟨C, R, B⟩ := C4.step1 (v := rpv d 1 10) hC hR hB
      rw [← pv_same d 0 9 (by decide), ← pv_same d 2 9 (by decide), ← pv_same d 3 9 (by decide)] at C
      refine ⟨⟨10, by omega, rfl, C, R, B⟩, by simp [intOf]⟩
    | 10, _, hC =>
      have kc := (hB.cell (p := ⟨g, 10, none⟩) hg).trans (hc.out 10 (by omega))
      have hw := d_wrap (d 10) (hd.out 10)
      have hm : IntKind.u64.wrap (d 10 * 65536) = d 10 * 65536 := dm_wrap (d 10) 65536 (hd.out 10) (by omega)
      have hs : IntKind.u64.wrap (rpv d 1 10 + d 10 * 65536) = rpv d 1 11 := by
        have h := pv_wrap d hd.out 1 10 rfl
        rw [show ((256 ^ (10 % 8) : Nat) : Int) = 65536 from rfl] at h
        exact h
      obtain ⟨c0, c1, c2, c3, f0, f1, f2, f3⟩ := id hC
      go_wp2_with fail
      go_region
      go_wp2_with fail
      obtain ⟨C, R, B⟩ := C4.step1 (v := rpv d 1 11) hC hR hB
      rw [← pv_same d 0 10 (by decide), ← pv_same d 2 10 (by decide), ← pv_same d 3 10 (by decide)] at C
      refine ⟨⟨11, by omega, rfl, C, R, B⟩, by simp [intOf]⟩
    | 11, _, hC =>
      have kc := (hB.cell (p := ⟨g, 11, none⟩) hg).trans (hc.out 11 (by omega))
      have hw := d_wrap (d 11) (hd.out 11)
      have hm : IntKind.u64.wrap (d 11 * 16777216) = d 11 * 16777216 := dm_wrap (d 11) 16777216 (hd.out 11) (by omega)
      have hs : IntKind.u64.wrap (rpv d 1 11 + d 11 * 16777216) = rpv d 1 12 := by
        have h := pv_wrap d hd.out 1 11 rfl
        rw [show ((256 ^ (11 % 8) : Nat) : Int) = 16777216 from rfl] at h
        exact h
      obtain ⟨c0, c1, c2, c3, f0, f1, f2, f3⟩ := id hC
      go_wp2_with fail
      go_region
      go_wp2_with fail
      obtain ⟨C, R, B⟩ := C4.step1 (v := rpv d 1 12) hC hR hB
      rw [← pv_same d 0 11 (by decide), ← pv_same d 2 11 (by decide), ← pv_same d 3 11 (by decide)] at C
      refine ⟨⟨12, by omega, rfl, C, R, B⟩, by simp [intOf]⟩
    | 12, _, hC =>
      have kc := (hB.cell (p := ⟨g, 12, none⟩) hg).trans (hc.out 12 (by omega))
      have hw := d_wrap (d 12) (hd.out 12)
      have hm : IntKind.u64.wrap (d 12 * 4294967296) = d 12 * 4294967296 := dm_wrap (d 12) 4294967296 (hd.out 12) (by omega)
      have hs : IntKind.u64.wrap (rpv d 1 12 + d 12 * 4294967296) = rpv d 1 13 := by
        have h := pv_wrap d hd.out 1 12 rfl
        rw [show ((256 ^ (12 % 8) : Nat) : Int) = 4294967296 from rfl] at h
        exact h
      obtain ⟨c0, c1, c2, c3, f0, f1, f2, f3⟩ := id hC
      go_wp2_with fail
      go_region
      go_wp2_with fail
      obtain ⟨C, R, B⟩ := C4.step1 (v := rpv d 1 13) hC hR hB
      rw [← pv_same d 0 12 (by decide), ← pv_same d 2 12 (by decide), ← pv_same d 3 12 (by decide)] at C
      refine ⟨⟨13, by omega, rfl, C, R, B⟩, by simp [intOf]⟩
    | 13, _, hC =>
      have kc := (hB.cell (p := ⟨g, 13, none⟩) hg).trans (hc.out 13 (by omega))
      have hw := d_wrap (d 13) (hd.out 13)
      have hm : IntKind.u64.wrap (d 13 * 1099511627776) = d 13 * 1099511627776 := dm_wrap (d 13) 1099511627776 (hd.out 13) (by omega)
      have hs : IntKind.u64.wrap (rpv d 1 13 + d 13 * 1099511627776) = rpv d 1 14 := by
        have h := pv_wrap d hd.out 1 13 rfl
        rw [show ((256 ^ (13 % 8) : Nat) : Int) = 1099511627776 from rfl] at h
        exact h
      obtain ⟨c0, c1, c2, c3, f0, f1, f2, f3⟩ := id hC
      go_wp2_with fail
      go_region
      go_wp2_with fail
      obtain ⟨C, R, B⟩ := C4.step1 (v := rpv d 1 14) hC hR hB
      rw [← pv_same d 0 13 (by decide), ← pv_same d 2 13 (by decide), ← pv_same d 3 13 (by decide)] at C
      refine ⟨⟨14, by omega, rfl, C, R, B⟩, by simp [intOf]⟩
    | 14, _, hC =>
      have kc := (hB.cell (p := ⟨g, 14, none⟩) hg).trans (hc.out 14 (by omega))
      have hw := d_wrap (d 14) (hd.out 14)
      have hm : IntKind.u64.wrap (d 14 * 281474976710656) = d 14 * 281474976710656 := dm_wrap (d 14) 281474976710656 (hd.out 14) (by omega)
      have hs : IntKind.u64.wrap (rpv d 1 14 + d 14 * 281474976710656) = rpv d 1 15 := by
        have h := pv_wrap d hd.out 1 14 rfl
        rw [show ((256 ^ (14 % 8) : Nat) : Int) = 281474976710656 from rfl] at h
        exact h
      obtain ⟨c0, c1, c2, c3, f0, f1, f2, f3⟩ := id hC
      go_wp2_with fail
      go_region
      go_wp2_with fail
      obtain ⟨C, R, B⟩ := C4.step1 (v := rpv d 1 15) hC hR hB
      rw [← pv_same d 0 14 (by decide), ← pv_same d 2 14 (by decide), ← pv_same d 3 14 (by decide)] at C
      refine ⟨⟨15, by omega, rfl, C, R, B⟩, by simp [intOf]⟩
    | 15, _, hC =>
      have kc := (hB.cell (p := ⟨g, 15, none⟩) hg).trans (hc.out 15 (by omega))
      have hw := d_wrap (d 15) (hd.out 15)
      have hm : IntKind.u64.wrap (d 15 * 72057594037927936) = d 15 * 72057594037927936 := dm_wrap (d 15) 72057594037927936 (hd.out 15) (by omega)
      have hs : IntKind.u64.wrap (rpv d 1 15 + d 15 * 72057594037927936) = rpv d 1 16 := by
        have h := pv_wrap d hd.out 1 15 rfl
        rw [show ((256 ^ (15 % 8) : Nat) : Int) = 72057594037927936 from rfl] at h
        exact h
      obtain ⟨c0, c1, c2, c3, f0, f1, f2, f3⟩ := id hC
      go_wp2_with fail
      go_region
      go_wp2_with fail
      obtain ⟨C, R, B⟩ := C4.step1 (v := rpv d 1 16) hC hR hB
      rw [← pv_same d 0 15 (by decide), ← pv_same d 2 15 (by decide), ← pv_same d 3 15 (by decide)] at C
      refine ⟨⟨16, by omega, rfl, C, R, B⟩, by simp [intOf]⟩
    | 16, _, hC =>
      have kc := (hB.cell (p := ⟨g, 16, none⟩) hg).trans (hc.out 16 (by omega))
      have hw := d_wrap (d 16) (hd.out 16)
      have hs : IntKind.u64.wrap (rpv d 2 16 + d 16) = rpv d 2 17 := by
        have h := pv_wrap d hd.out 2 16 rfl
        rw [show ((256 ^ (16 % 8) : Nat) : Int) = 1 from rfl, Int.mul_one] at h
        exact h
      obtain ⟨c0, c1, c2, c3, f0, f1, f2, f3⟩ := id hC
      go_wp2_with fail
      go_region
      go_wp2_with fail
      obtain ⟨C, R, B⟩ := C4.step2 (v := rpv d 2 17) hC hR hB
      rw [← pv_same d 0 16 (by decide), ← pv_same d 1 16 (by decide), ← pv_same d 3 16 (by decide)] at C
      refine ⟨⟨17, by omega, rfl, C, R, B⟩, by simp [intOf]⟩
    | 17, _, hC =>
      have kc := (hB.cell (p := ⟨g, 17, none⟩) hg).trans (hc.out 17 (by omega))
      have hw := d_wrap (d 17) (hd.out 17)
      have hm : IntKind.u64.wrap (d 17 * 256) = d 17 * 256 := dm_wrap (d 17) 256 (hd.out 17) (by omega)
      have hs : IntKind.u64.wrap (rpv d 2 17 + d 17 * 256) = rpv d 2 18 := by
        have h := pv_wrap d hd.out 2 17 rfl
        rw [show ((256 ^ (17 % 8) : Nat) : Int) = 256 from rfl] at h
        exact h
      obtain ⟨c0, c1, c2, c3, f0, f1, f2, f3⟩ := id hC
      go_wp2_with fail
      go_region
      go_wp2_with fail
      obtain ⟨C, R, B⟩ := C4.step2 (v := rpv d 2 18) hC hR hB
      rw [← pv_same d 0 17 (by decide), ← pv_same d 1 17 (by decide), ← pv_same d 3 17 (by decide)] at C
      refine ⟨⟨18, by omega, rfl, C, R, B⟩, by simp [intOf]⟩
    | 18, _, hC =>
      have kc := (hB.cell (p := ⟨g, 18, none⟩) hg).trans (hc.out 18 (by omega))
      have hw := d_wrap (d 18) (hd.out 18)
      have hm : IntKind.u64.wrap (d 18 * 65536) = d 18 * 65536 := dm_wrap (d 18) 65536 (hd.out 18) (by omega)
      have hs : IntKind.u64.wrap (rpv d 2 18 + d 18 * 65536) = rpv d 2 19 := by
        have h := pv_wrap d hd.out 2 18 rfl
        rw [show ((256 ^ (18 % 8) : Nat) : Int) = 65536 from rfl] at h
        exact h
      obtain ⟨c0, c1, c2, c3, f0, f1, f2, f3⟩ := id hC
      go_wp2_with fail
      go_region
      go_wp2_with fail
      obtain ⟨C, R, B⟩ := C4.step2 (v := rpv d 2 19) hC hR hB
      rw [← pv_same d 0 18 (by decide), ← pv_same d 1 18 (by decide), ← pv_same d 3 18 (by decide)] at C
      refine ⟨⟨19, by omega, rfl, C, R, B⟩, by simp [intOf]⟩
    | 19, _, hC =>
      have kc := (hB.cell (p := ⟨g, 19, none⟩) hg).trans (hc.out 19 (by omega))
      have hw := d_wrap (d 19) (hd.out 19)
      have hm : IntKind.u64.wrap (d 19 * 16777216) = d 19 * 16777216 := dm_wrap (d 19) 16777216 (hd.out 19) (by omega)
      have hs : IntKind.u64.wrap (rpv d 2 19 + d 19 * 16777216) = rpv d 2 20 := by
        have h := pv_wrap d hd.out 2 19 rfl
        rw [show ((256 ^ (19 % 8) : Nat) : Int) = 16777216 from rfl] at h
        exact h
      obtain ⟨c0, c1, c2, c3, f0, f1, f2, f3⟩ := id hC
      go_wp2_with fail
      go_region
      go_wp2_with fail
      obtain ⟨C, R, B⟩ := C4.step2 (v := rpv d 2 20) hC hR hB
      rw [← pv_same d 0 19 (by decide), ← pv_same d 1 19 (by decide), ← pv_same d 3 19 (by decide)] at C
      refine ⟨⟨20, by omega, rfl, C, R, B⟩, by simp [intOf]⟩
    | 20, _, hC =>
      have kc := (hB.cell (p := ⟨g, 20, none⟩) hg).trans (hc.out 20 (by omega))
      have hw := d_wrap (d 20) (hd.out 20)
      have hm : IntKind.u64.wrap (d 20 * 4294967296) = d 20 * 4294967296 := dm_wrap (d 20) 4294967296 (hd.out 20) (by omega)
      have hs : IntKind.u64.wrap (rpv d 2 20 + d 20 * 4294967296) = rpv d 2 21 := by
        have h := pv_wrap d hd.out 2 20 rfl
        rw [show ((256 ^ (20 % 8) : Nat) : Int) = 4294967296 from rfl] at h
        exact h
      obtain ⟨c0, c1, c2, c3, f0, f1, f2, f3⟩ := id hC
      go_wp2_with fail
      go_region
      go_wp2_with fail
      obtain ⟨C, R, B⟩ := C4.step2 (v := rpv d 2 21) hC hR hB
      rw [← pv_same d 0 20 (by decide), ← pv_same d 1 20 (by decide), ← pv_same d 3 20 (by decide)] at C
      refine ⟨⟨21, by omega, rfl, C, R, B⟩, by simp [intOf]⟩
    | 21, _, hC =>
      have kc := (hB.cell (p := ⟨g, 21, none⟩) hg).trans (hc.out 21 (by omega))
      have hw := d_wrap (d 21) (hd.out 21)
      have hm : IntKind.u64.wrap (d 21 * 1099511627776) = d 21 * 1099511627776 := dm_wrap (d 21) 1099511627776 (hd.out 21) (by omega)
      have hs : IntKind.u64.wrap (rpv d 2 21 + d 21 * 1099511627776) = rpv d 2 22 := by
        have h := pv_wrap d hd.out 2 21 rfl
        rw [show ((256 ^ (21 % 8) : Nat) : Int) = 1099511627776 from rfl] at h
        exact h
      obtain ⟨c0, c1, c2, c3, f0, f1, f2, f3⟩ := id hC
      go_wp2_with fail
      go_region
      go_wp2_with fail
      obtain ⟨C, R, B⟩ := C4.step2 (v := rpv d 2 22) hC hR hB
      rw [← pv_same d 0 21 (by decide), ← pv_same d 1 21 (by decide), ← pv_same d 3 21 (by decide)] at C
      refine ⟨⟨22, by omega, rfl, C, R, B⟩, by simp [intOf]⟩
    | 22, _, hC =>
      have kc := (hB.cell (p := ⟨g, 22, none⟩) hg).trans (hc.out 22 (by omega))
      have hw := d_wrap (d 22) (hd.out 22)
      have hm : IntKind.u64.wrap (d 22 * 281474976710656) = d 22 * 281474976710656 := dm_wrap (d 22) 281474976710656 (hd.out 22) (by omega)
      have hs : IntKind.u64.wrap (rpv d 2 22 + d 22 * 281474976710656) = rpv d 2 23 := by
        have h := pv_wrap d hd.out 2 22 rfl
        rw [show ((256 ^ (22 % 8) : Nat) : Int) = 281474976710656 from rfl] at h
        exact h
      obtain ⟨c0, c1, c2, c3, f0, f1, f2, f3⟩ := id hC
      go_wp2_with fail
      go_region
      go_wp2_with fail
      obtain ⟨C, R, B⟩ := C4.step2 (v := rpv d 2 23) hC hR hB
      rw [← pv_same d 0 22 (by decide), ← pv_same d 1 22 (by decide), ← pv_same d 3 22 (by decide)] at C
      refine ⟨⟨23, by omega, rfl, C, R, B⟩, by simp [intOf]⟩
    | 23, _, hC =>
      have kc := (hB.cell (p := ⟨g, 23, none⟩) hg).trans (hc.out 23 (by omega))
      have hw := d_wrap (d 23) (hd.out 23)
      have hm : IntKind.u64.wrap (d 23 * 72057594037927936) = d 23 * 72057594037927936 := dm_wrap (d 23) 72057594037927936 (hd.out 23) (by omega)
      have hs : IntKind.u64.wrap (rpv d 2 23 + d 23 * 72057594037927936) = rpv d 2 24 := by
        have h := pv_wrap d hd.out 2 23 rfl
        rw [show ((256 ^ (23 % 8) : Nat) : Int) = 72057594037927936 from rfl] at h
        exact h
      obtain ⟨c0, c1, c2, c3, f0, f1, f2, f3⟩ := id hC
      go_wp2_with fail
      go_region
      go_wp2_with fail
      obtain ⟨C, R, B⟩ := C4.step2 (v := rpv d 2 24) hC hR hB
      rw [← pv_same d 0 23 (by decide), ← pv_same d 1 23 (by decide), ← pv_same d 3 23 (by decide)] at C
      refine ⟨⟨24, by omega, rfl, C, R, B⟩, by simp [intOf]⟩
    | 24, _, hC =>
      have kc := (hB.cell (p := ⟨g, 24, none⟩) hg).trans (hc.out 24 (by omega))
      have hw := d_wrap (d 24) (hd.out 24)
      have hs : IntKind.u64.wrap (rpv d 3 24 + d 24) = rpv d 3 25 := by
        have h := pv_wrap d hd.out 3 24 rfl
        rw [show ((256 ^ (24 % 8) : Nat) : Int) = 1 from rfl, Int.mul_one] at h
        exact h
      obtain ⟨c0, c1, c2, c3, f0, f1, f2, f3⟩ := id hC
      go_wp2_with fail
      go_region
      go_wp2_with fail
      obtain ⟨C, R, B⟩ := C4.step3 (v := rpv d 3 25) hC hR hB
      rw [← pv_same d 0 24 (by decide), ← pv_same d 1 24 (by decide), ← pv_same d 2 24 (by decide)] at C
      refine ⟨⟨25, by omega, rfl, C, R, B⟩, by simp [intOf]⟩
    | 25, _, hC =>
      have kc := (hB.cell (p := ⟨g, 25, none⟩) hg).trans (hc.out 25 (by omega))
      have hw := d_wrap (d 25) (hd.out 25)
      have hm : IntKind.u64.wrap (d 25 * 256) = d 25 * 256 := dm_wrap (d 25) 256 (hd.out 25) (by omega)
      have hs : IntKind.u64.wrap (rpv d 3 25 + d 25 * 256) = rpv d 3 26 := by
        have h := pv_wrap d hd.out 3 25 rfl
        rw [show ((256 ^ (25 % 8) : Nat) : Int) = 256 from rfl] at h
        exact h
      obtain ⟨c0, c1, c2, c3, f0, f1, f2, f3⟩ := id hC
      go_wp2_with fail
      go_region
      go_wp2_with fail
      obtain ⟨C, R, B⟩ := C4.step3 (v := rpv d 3 26) hC hR hB
      rw [← pv_same d 0 25 (by decide), ← pv_same d 1 25 (by decide), ← pv_same d 2 25 (by decide)] at C
      refine ⟨⟨26, by omega, rfl, C, R, B⟩, by simp [intOf]⟩
    | 26, _, hC =>
      have kc := (hB.cell (p := ⟨g, 26, none⟩) hg).trans (hc.out 26 (by omega))
      have hw := d_wrap (d 26) (hd.out 26)
      have hm : IntKind.u64.wrap (d 26 * 65536) = d 26 * 65536 := dm_wrap (d 26) 65536 (hd.out 26) (by omega)
      have hs : IntKind.u64.wrap (rpv d 3 26 + d 26 * 65536) = rpv d 3 27 := by
        have h := pv_wrap d hd.out 3 26 rfl
        rw [show ((256 ^ (26 % 8) : Nat) : Int) = 65536 from rfl] at h
        exact h
      obtain ⟨c0, c1, c2, c3, f0, f1, f2, f3⟩ := id hC
      go_wp2_with fail
      go_region
      go_wp2_with fail
      obtain ⟨C, R, B⟩ := C4.step3 (v := rpv d 3 27) hC hR hB
      rw [← pv_same d 0 26 (by decide), ← pv_same d 1 26 (by decide), ← pv_same d 2 26 (by decide)] at C
      refine ⟨⟨27, by omega, rfl, C, R, B⟩, by simp [intOf]⟩
    | 27, _, hC =>
      have kc := (hB.cell (p := ⟨g, 27, none⟩) hg).trans (hc.out 27 (by omega))
      have hw := d_wrap (d 27) (hd.out 27)
      have hm : IntKind.u64.wrap (d 27 * 16777216) = d 27 * 16777216 := dm_wrap (d 27) 16777216 (hd.out 27) (by omega)
      have hs : IntKind.u64.wrap (rpv d 3 27 + d 27 * 16777216) = rpv d 3 28 := by
        have h := pv_wrap d hd.out 3 27 rfl
        rw [show ((256 ^ (27 % 8) : Nat) : Int) = 16777216 from rfl] at h
        exact h
      obtain ⟨c0, c1, c2, c3, f0, f1, f2, f3⟩ := id hC
      go_wp2_with fail
      go_region
      go_wp2_with fail
      obtain ⟨C, R, B⟩ := C4.step3 (v := rpv d 3 28) hC hR hB
      rw [← pv_same d 0 27 (by decide), ← pv_same d 1 27 (by decide), ← pv_same d 2 27 (by decide)] at C
      refine ⟨⟨28, by omega, rfl, C, R, B⟩, by simp [intOf]⟩
    | 28, _, hC =>
      have kc := (hB.cell (p := ⟨g, 28, none⟩) hg).trans (hc.out 28 (by omega))
      have hw := d_wrap (d 28) (hd.out 28)
      have hm : IntKind.u64.wrap (d 28 * 4294967296) = d 28 * 4294967296 := dm_wrap (d 28) 4294967296 (hd.out 28) (by omega)
      have hs : IntKind.u64.wrap (rpv d 3 28 + d 28 * 4294967296) = rpv d 3 29 := by
        have h := pv_wrap d hd.out 3 28 rfl
        rw [show ((256 ^ (28 % 8) : Nat) : Int) = 4294967296 from rfl] at h
        exact h
      obtain ⟨c0, c1, c2, c3, f0, f1, f2, f3⟩ := id hC
      go_wp2_with fail
      go_region
      go_wp2_with fail
      obtain ⟨C, R, B⟩ := C4.step3 (v := rpv d 3 29) hC hR hB
      rw [← pv_same d 0 28 (by decide), ← pv_same d 1 28 (by decide), ← pv_same d 2 28 (by decide)] at C
      refine ⟨⟨29, by omega, rfl, C, R, B⟩, by simp [intOf]⟩
    | 29, _, hC =>
      have kc := (hB.cell (p := ⟨g, 29, none⟩) hg).trans (hc.out 29 (by omega))
      have hw := d_wrap (d 29) (hd.out 29)
      have hm : IntKind.u64.wrap (d 29 * 1099511627776) = d 29 * 1099511627776 := dm_wrap (d 29) 1099511627776 (hd.out 29) (by omega)
      have hs : IntKind.u64.wrap (rpv d 3 29 + d 29 * 1099511627776) = rpv d 3 30 := by
        have h := pv_wrap d hd.out 3 29 rfl
        rw [show ((256 ^ (29 % 8) : Nat) : Int) = 1099511627776 from rfl] at h
        exact h
      obtain ⟨c0, c1, c2, c3, f0, f1, f2, f3⟩ := id hC
      go_wp2_with fail
      go_region
      go_wp2_with fail
      obtain ⟨C, R, B⟩ := C4.step3 (v := rpv d 3 30) hC hR hB
      rw [← pv_same d 0 29 (by decide), ← pv_same d 1 29 (by decide), ← pv_same d 2 29 (by decide)] at C
      refine ⟨⟨30, by omega, rfl, C, R, B⟩, by simp [intOf]⟩
    | 30, _, hC =>
      have kc := (hB.cell (p := ⟨g, 30, none⟩) hg).trans (hc.out 30 (by omega))
      have hw := d_wrap (d 30) (hd.out 30)
      have hm : IntKind.u64.wrap (d 30 * 281474976710656) = d 30 * 281474976710656 := dm_wrap (d 30) 281474976710656 (hd.out 30) (by omega)
      have hs : IntKind.u64.wrap (rpv d 3 30 + d 30 * 281474976710656) = rpv d 3 31 := by
        have h := pv_wrap d hd.out 3 30 rfl
        rw [show ((256 ^ (30 % 8) : Nat) : Int) = 281474976710656 from rfl] at h
        exact h
      obtain ⟨c0, c1, c2, c3, f0, f1, f2, f3⟩ := id hC
      go_wp2_with fail
      go_region
      go_wp2_with fail
      obtain ⟨C, R, B⟩ := C4.step3 (v := rpv d 3 31) hC hR hB
      rw [← pv_same d 0 30 (by decide), ← pv_same d 1 30 (by decide), ← pv_same d 2 30 (by decide)] at C
      refine ⟨⟨31, by omega, rfl, C, R, B⟩, by simp [intOf]⟩
    | 31, _, hC =>
      have kc := (hB.cell (p := ⟨g, 31, none⟩) hg).trans (hc.out 31 (by omega))
      have hw := d_wrap (d 31) (hd.out 31)
      have hm : IntKind.u64.wrap (d 31 * 72057594037927936) = d 31 * 72057594037927936 := dm_wrap (d 31) 72057594037927936 (hd.out 31) (by omega)
      have hs : IntKind.u64.wrap (rpv d 3 31 + d 31 * 72057594037927936) = rpv d 3 32 := by
        have h := pv_wrap d hd.out 3 31 rfl
        rw [show ((256 ^ (31 % 8) : Nat) : Int) = 72057594037927936 from rfl] at h
        exact h
      obtain ⟨c0, c1, c2, c3, f0, f1, f2, f3⟩ := id hC
      go_wp2_with fail
      go_region
      go_wp2_with fail
      obtain ⟨C, R, B⟩ := C4.step3 (v := rpv d 3 32) hC hR hB
      rw [← pv_same d 0 31 (by decide), ← pv_same d 1 31 (by decide), ← pv_same d 2 31 (by decide)] at C
      refine ⟨⟨32, by omega, rfl, C, R, B⟩, by simp [intOf]⟩
    | 32, _, hC =>
      obtain ⟨c0, c1, c2, c3, f0, f1, f2, f3⟩ := hC
      obtain ⟨r0, r1, r2, r3, g0, g1, g2, g3⟩ := hR
      go_wp2_with fail
      refine bodyPost_ret (v := wd (rpv d 0 32) (rpv d 1 32) (rpv d 2 32) (rpv d 3 32)) (by simp [results, Tryz.results274, go_sem, r0, r1, r2, r3]) rfl ⟨rfl, ?_⟩
      refine Below.setCell (Below.setCell (Below.setCell (Below.setCell hB (by first | omega | (simp; omega) | simp) _) (by first | omega | (simp; omega) | simp) _) (by first | omega | (simp; omega) | simp) _) (by first | omega | (simp; omega) | simp) _
    | k + 33, h, _ => exact absurd h (by omega)
end Go.Proofs.YtebjhbeaknokkaaGreatDoor
namespace Go.Proofs.YtebjhbeaknokkaaGreatDoor
open Go Go.RowKit

theorem pv_zero (d : Nat → Int) (q : Nat) : ∀ k, k ≤ 8 * q → rpv d q k = 0
  | 0, _ => rfl
  | k + 1, h => by rw [pv_same d q k (by omega), pv_zero d q k (by omega)]
theorem pv_part (N q : Nat) : ∀ r, r ≤ 8 → rpv (fun j => ((N / 256 ^ j % 256 : Nat) : Int)) q (8 * q + r) = ((N / 256 ^ (8 * q) % 256 ^ r : Nat) : Int)
  | 0, _ => by rw [Nat.add_zero, pv_zero _ _ _ (Nat.le_refl _), Nat.pow_zero, Nat.mod_one]; rfl
  | r + 1, h => by
    rw [← Nat.add_assoc, pv_step _ q (8 * q + r) (by omega), pv_part N q r (by omega), show (8 * q + r) % 8 = r by omega, Nat.mod_pow_succ, Nat.pow_add, ← Nat.div_div_eq_div_mul]
    rw [Int.natCast_add, Int.natCast_mul, Int.mul_comm]
theorem pv_late (d : Nat → Int) (q : Nat) : ∀ k, rpv d q (8 * q + 8 + k) = rpv d q (8 * q + 8)
  | 0 => rfl
  | k + 1 => by rw [← Nat.add_assoc, pv_same d q _ (by omega), pv_late d q k]
theorem pv_pt (N q : Nat) (hq : q < 4) : rpv (fun j => ((N / 256 ^ j % 256 : Nat) : Int)) q 32 = M.pt q N := by
  have e : 32 = 8 * q + 8 + (24 - 8 * q) := by omega
  rw [e, pv_late, pv_part N q 8 (by omega)]
  unfold M.pt
  rw [show (18446744073709551616 : Nat) ^ q = 256 ^ (8 * q) by rw [Nat.pow_mul]]

theorem rof_any (N g cap : Nat) (w : World) (hc : ∀ j, j < 32 → w.cell? ⟨g, j, none⟩ = some (.int .i64 ((N / 256 ^ j % 256 : Nat) : Int))) (hg : g < w.heap.size) :
    Calls Tryz.prog 274 #[.slice (some ⟨g, 0, none⟩) 32 cap] w fun e w' => e = .returned (wn N) ∧ Below w.heap.size w w' := by
  have h := of_core g cap (fun j => ((N / 256 ^ j % 256 : Nat) : Int)) w hc hg (fun j => ⟨by omega, by omega⟩)
  rw [pv_pt N 0 (by omega), pv_pt N 1 (by omega), pv_pt N 2 (by omega), pv_pt N 3 (by omega)] at h
  exact h

def low (N : Nat) (k : Nat) : List Int := (List.range k).map fun t => ((N / 256 ^ t % 256 : Nat) : Int)
theorem low_succ (N k : Nat) : low N (k + 1) = low N k ++ [((N / 256 ^ k % 256 : Nat) : Int)] := by simp [low, List.range_succ]
theorem low_length (N k : Nat) : (low N k).length = k := by simp [low]
theorem low_get (N k j : Nat) (h : j < k) : (low N k).getD j 0 = ((N / 256 ^ j % 256 : Nat) : Int) := by simp [low, h]

theorem be_get (k : Nat) : ∀ (N j : Nat), j < k → (M.be k N)[k - 1 - j]? = some (UInt8.ofNat (N / 256 ^ j % 256)) := by
  induction k with
  | zero => intro N j h; omega
  | succ k ih =>
    intro N j h
    rw [M.be]
    cases j with
    | zero => simp [M.be_length]
    | succ j =>
      rw [List.getElem?_append_left (by rw [M.be_length]; omega), show k + 1 - 1 - (j + 1) = k - 1 - j by omega, ih (N / 256) j (by omega), Nat.div_div_eq_div_mul, Nat.pow_succ, Nat.mul_comm]

theorem byte64 (c : UInt8) : wrap64 (c.toNat : Int) = (c.toNat : Int) := by
  have := c.toNat_lt
  unfold wrap64
  omega
theorem World.lt_of_cell {W : World} {b o : Nat} {v : Value} (h : W.cell? ⟨b, o, none⟩ = some v) : b < W.heap.size := by
  rcases Nat.lt_or_ge b W.heap.size with hl | hl
  · exact hl
  · rw [World.cell?, Array.getElem?_eq_none hl] at h
    cases h
theorem C4.lt0 {W : World} {b : Nat} {a0 a1 a2 a3 : Int} (h : C4 W b a0 a1 a2 a3) : b < W.heap.size := World.lt_of_cell h.c0
theorem C4.belowN {W W' : World} {b B : Nat} {a0 a1 a2 a3 : Int} (h : C4 W b a0 a1 a2 a3) (hb : Below B W W') (hl : b < B) : C4 W' b a0 a1 a2 a3 :=
  ⟨(hb.cell (p := ⟨b, 0, none⟩) hl).trans h.c0, (hb.cell (p := ⟨b, 1, none⟩) hl).trans h.c1, (hb.cell (p := ⟨b, 2, none⟩) hl).trans h.c2, (hb.cell (p := ⟨b, 3, none⟩) hl).trans h.c3,
   (hb.frozen (p := ⟨b, 0, none⟩) hl).trans h.f0, (hb.frozen (p := ⟨b, 1, none⟩) hl).trans h.f1, (hb.frozen (p := ⟨b, 2, none⟩) hl).trans h.f2, (hb.frozen (p := ⟨b, 3, none⟩) hl).trans h.f3⟩

theorem Tryz.infoI : (Tryz.prog.info? 3).map (fun i => (i.zero, i.size, i.bytes)) = some (some (.int .i64 0), 1, 8) := by kernel_rfl

set_option maxRecDepth 100000 in
set_option maxHeartbeats 4000000 in
theorem runfixed_core (l : List UInt8) (N : Nat) (w : World) (h32 : l.length = 32) (hd : Hid (∀ j (hj : j < 32), ((l[31 - j]'(by omega)).toNat : Int) = ((N / 256 ^ j % 256 : Nat) : Int))) :
    Calls Tryz.prog 256 #[.string ⟨l.toArray⟩] w fun e w' => e = .returned (.tuple #[wn N, .int .i64 0]) ∧ Below w.heap.size w w' := by
  obtain ⟨i0, hi, hz0, hz1, hz2⟩ := info_parts Tryz.infoI
  go_enter Tryz.func256, Tryz.ntmps256
  go_wp2_with fail
  go_loopw [4, 5] (fun v i wr => ∃ k : Nat, k ≤ 32 ∧ i = .int .i64 (31 - (k : Int)) ∧ wr.ownsRow (w.heap.size + 1) 3 1 v k ((low N k).map (Value.int .i64)) ∧ C4 wr w.heap.size 0 0 0 0 ∧ Below w.heap.size w wr)
    (fun _ i _ => (intOf i + 1).toNat)
  case atStart =>
    refine ⟨0, by omega, rfl, World.ownsRow_nil _ _ _ _, ⟨?_, ?_, ?_, ?_, ?_, ?_, ?_, ?_⟩, (Below.refl _ _).alloc (Nat.le_refl _) _⟩
    all_goals simp [go_sem]
  case round =>
    obtain ⟨k, hk, rfl, hown, H, LW⟩ := hrel
    by_cases hlt : k < 32
    · have hp : (0 : Int) ≤ 31 - (k : Int) := by omega
      have hp2 : (31 : Int) - (k : Int) < 32 := by omega
      have hz : wrap64 (((⟨l.toArray⟩ : ByteArray)[31 - k]'(by simp [ByteArray.size]; omega)).toNat : Int) = ((N / 256 ^ k % 256 : Nat) : Int) := by
        rw [← hd.out k hlt]
        exact byte64 _
      generalize hzz : ((N / 256 ^ k % 256 : Nat) : Int) = z at hz
      have HZ := Lib.hid hzz
      clear hzz
      have hsz := LW.size
      go_wp2_with (at_builtin; refine wpList_append_own _ rfl _ _ 311 rfl (w.heap.size + 1) 3 i0 (.int .i64 0) 1 8 Tryz.underlying311 hi hz0 hz1 hz2 rfl (by decide) _ _ _ rfl (hown.alloc _) ⟨wr.heap.size, 0, none⟩ 1 1 [.int .i64 z] rfl rfl (cell_one_new _ _ _) (by simp [Value.oneCell']) (by unfold maxLen; omega) (by omega) (by simp; omega) ?_; intro v' w2 hown' hgrow _)
      have hown2 : w2.ownsRow (w.heap.size + 1) 3 1 v' (k + 1) ((low N (k + 1)).map (Value.int .i64)) := by
        rw [low_succ, HZ.out, List.map_append]
        exact hown'
      have hbel : Below (w.heap.size + 1) wr w2 := by
        exact ((Below.refl _ wr).alloc (by have := H.lt0; omega) _).grown hgrow (by have := H.lt0; simp; omega) (fun q e => (hown.lt q e).1)
      replace H := H.belowN hbel (by omega)
      replace LW := LW.trans (hbel.mono (by omega))
      clear hown hown' hgrow hbel hz
      go_wp2_with fail
      refine ⟨⟨k + 1, by omega, by congr 1; omega, hown2, H, LW⟩, by simp [intOf]; omega⟩
    · obtain rfl : k = 32 := by omega
      have hlt := fun q e => hown.lt q e
      obtain ⟨g, cap, rfl, hcells⟩ := row_cells hown (by omega)
      have hg := (hlt g rfl).2
      obtain ⟨r0, r1, r2, r3, g0, g1, g2, g3⟩ := H
      clear hown hlt
      go_wp2_with fail
      refine (rof_any N g cap _ (fun j hj => by rw [hcells j (by rw [low_length]; exact hj), low_get N 32 j hj]) hg).mono ?_
      rintro e w2 ⟨rfl, hb⟩
      have lr : w.heap.size < wr.heap.size := World.lt_of_cell r0
      obtain ⟨hce, hfr⟩ := bcell hb
      replace LW := LW.trans (hb.mono LW.size)
      clear hb hcells
      go_wp2_with fail
      refine bodyPost_ret (v := .tuple #[wn N, .int .i64 0]) (by simp [results, Tryz.results256, go_sem, hce, lr, r0, r1, r2, r3]) rfl ⟨rfl, ?_⟩
      refine Below.setCell (Below.setCell (Below.setCell (Below.setCell LW (by first | omega | (simp; omega) | simp) _) (by first | omega | (simp; omega) | simp) _) (by first | omega | (simp; omega) | simp) _) (by first | omega | (simp; omega) | simp) _

theorem runfixed_any (l : List UInt8) (w : World) (h : l.length = 32) :
    Calls Tryz.prog 256 #[.string ⟨l.toArray⟩] w fun e w' => e = .returned (.tuple #[wn (M.dg l), .int .i64 0]) ∧ Below w.heap.size w w' := by
  refine runfixed_core l (M.dg l) w h ?_
  intro j hj
  have hb := be_get 32 (M.dg l) j hj
  have e : M.be 32 (M.dg l) = l := M.f32_dg h
  rw [e, show 32 - 1 - j = 31 - j by omega, List.getElem?_eq_getElem (by omega)] at hb
  rw [Option.some.inj hb]
  simp

theorem make_0 : ∀ w : World, (Instr.makeSlice 75 (.int .i64 0) (.int .i64 0)).run Tryz.prog w = .ok (.slice (some ⟨w.heap.size, 0, none⟩) 0 0) (w.alloc (.cells #[] 5)) := fun _ => by kernel_rfl
theorem make_1 : ∀ w : World, (Instr.makeSlice 75 (.int .i64 1) (.int .i64 1)).run Tryz.prog w = .ok (.slice (some ⟨w.heap.size, 0, none⟩) 1 1) (w.alloc (.cells #[.int .u8 0] 5)) := fun _ => by kernel_rfl
theorem make_2 : ∀ w : World, (Instr.makeSlice 75 (.int .i64 2) (.int .i64 2)).run Tryz.prog w = .ok (.slice (some ⟨w.heap.size, 0, none⟩) 2 2) (w.alloc (.cells #[.int .u8 0, .int .u8 0] 5)) := fun _ => by kernel_rfl
theorem make_3 : ∀ w : World, (Instr.makeSlice 75 (.int .i64 3) (.int .i64 3)).run Tryz.prog w = .ok (.slice (some ⟨w.heap.size, 0, none⟩) 3 3) (w.alloc (.cells #[.int .u8 0, .int .u8 0, .int .u8 0] 5)) := fun _ => by kernel_rfl
theorem make_4 : ∀ w : World, (Instr.makeSlice 75 (.int .i64 4) (.int .i64 4)).run Tryz.prog w = .ok (.slice (some ⟨w.heap.size, 0, none⟩) 4 4) (w.alloc (.cells #[.int .u8 0, .int .u8 0, .int .u8 0, .int .u8 0] 5)) := fun _ => by kernel_rfl
theorem make_5 : ∀ w : World, (Instr.makeSlice 75 (.int .i64 5) (.int .i64 5)).run Tryz.prog w = .ok (.slice (some ⟨w.heap.size, 0, none⟩) 5 5) (w.alloc (.cells #[.int .u8 0, .int .u8 0, .int .u8 0, .int .u8 0, .int .u8 0] 5)) := fun _ => by kernel_rfl
theorem make_6 : ∀ w : World, (Instr.makeSlice 75 (.int .i64 6) (.int .i64 6)).run Tryz.prog w = .ok (.slice (some ⟨w.heap.size, 0, none⟩) 6 6) (w.alloc (.cells #[.int .u8 0, .int .u8 0, .int .u8 0, .int .u8 0, .int .u8 0, .int .u8 0] 5)) := fun _ => by kernel_rfl
theorem make_7 : ∀ w : World, (Instr.makeSlice 75 (.int .i64 7) (.int .i64 7)).run Tryz.prog w = .ok (.slice (some ⟨w.heap.size, 0, none⟩) 7 7) (w.alloc (.cells #[.int .u8 0, .int .u8 0, .int .u8 0, .int .u8 0, .int .u8 0, .int .u8 0, .int .u8 0] 5)) := fun _ => by kernel_rfl
theorem make_8 : ∀ w : World, (Instr.makeSlice 75 (.int .i64 8) (.int .i64 8)).run Tryz.prog w = .ok (.slice (some ⟨w.heap.size, 0, none⟩) 8 8) (w.alloc (.cells #[.int .u8 0, .int .u8 0, .int .u8 0, .int .u8 0, .int .u8 0, .int .u8 0, .int .u8 0, .int .u8 0] 5)) := fun _ => by kernel_rfl
theorem make_9 : ∀ w : World, (Instr.makeSlice 75 (.int .i64 9) (.int .i64 9)).run Tryz.prog w = .ok (.slice (some ⟨w.heap.size, 0, none⟩) 9 9) (w.alloc (.cells #[.int .u8 0, .int .u8 0, .int .u8 0, .int .u8 0, .int .u8 0, .int .u8 0, .int .u8 0, .int .u8 0, .int .u8 0] 5)) := fun _ => by kernel_rfl
theorem make_10 : ∀ w : World, (Instr.makeSlice 75 (.int .i64 10) (.int .i64 10)).run Tryz.prog w = .ok (.slice (some ⟨w.heap.size, 0, none⟩) 10 10) (w.alloc (.cells #[.int .u8 0, .int .u8 0, .int .u8 0, .int .u8 0, .int .u8 0, .int .u8 0, .int .u8 0, .int .u8 0, .int .u8 0, .int .u8 0] 5)) := fun _ => by kernel_rfl
theorem make_11 : ∀ w : World, (Instr.makeSlice 75 (.int .i64 11) (.int .i64 11)).run Tryz.prog w = .ok (.slice (some ⟨w.heap.size, 0, none⟩) 11 11) (w.alloc (.cells #[.int .u8 0, .int .u8 0, .int .u8 0, .int .u8 0, .int .u8 0, .int .u8 0, .int .u8 0, .int .u8 0, .int .u8 0, .int .u8 0, .int .u8 0] 5)) := fun _ => by kernel_rfl
theorem make_12 : ∀ w : World, (Instr.makeSlice 75 (.int .i64 12) (.int .i64 12)).run Tryz.prog w = .ok (.slice (some ⟨w.heap.size, 0, none⟩) 12 12) (w.alloc (.cells #[.int .u8 0, .int .u8 0, .int .u8 0, .int .u8 0, .int .u8 0, .int .u8 0, .int .u8 0, .int .u8 0, .int .u8 0, .int .u8 0, .int .u8 0, .int .u8 0] 5)) := fun _ => by kernel_rfl
theorem make_13 : ∀ w : World, (Instr.makeSlice 75 (.int .i64 13) (.int .i64 13)).run Tryz.prog w = .ok (.slice (some ⟨w.heap.size, 0, none⟩) 13 13) (w.alloc (.cells #[.int .u8 0, .int .u8 0, .int .u8 0, .int .u8 0, .int .u8 0, .int .u8 0, .int .u8 0, .int .u8 0, .int .u8 0, .int .u8 0, .int .u8 0, .int .u8 0, .int .u8 0] 5)) := fun _ => by kernel_rfl
theorem make_14 : ∀ w : World, (Instr.makeSlice 75 (.int .i64 14) (.int .i64 14)).run Tryz.prog w = .ok (.slice (some ⟨w.heap.size, 0, none⟩) 14 14) (w.alloc (.cells #[.int .u8 0, .int .u8 0, .int .u8 0, .int .u8 0, .int .u8 0, .int .u8 0, .int .u8 0, .int .u8 0, .int .u8 0, .int .u8 0, .int .u8 0, .int .u8 0, .int .u8 0, .int .u8 0] 5)) := fun _ => by kernel_rfl
theorem make_15 : ∀ w : World, (Instr.makeSlice 75 (.int .i64 15) (.int .i64 15)).run Tryz.prog w = .ok (.slice (some ⟨w.heap.size, 0, none⟩) 15 15) (w.alloc (.cells #[.int .u8 0, .int .u8 0, .int .u8 0, .int .u8 0, .int .u8 0, .int .u8 0, .int .u8 0, .int .u8 0, .int .u8 0, .int .u8 0, .int .u8 0, .int .u8 0, .int .u8 0, .int .u8 0, .int .u8 0] 5)) := fun _ => by kernel_rfl
theorem make_16 : ∀ w : World, (Instr.makeSlice 75 (.int .i64 16) (.int .i64 16)).run Tryz.prog w = .ok (.slice (some ⟨w.heap.size, 0, none⟩) 16 16) (w.alloc (.cells #[.int .u8 0, .int .u8 0, .int .u8 0, .int .u8 0, .int .u8 0, .int .u8 0, .int .u8 0, .int .u8 0, .int .u8 0, .int .u8 0, .int .u8 0, .int .u8 0, .int .u8 0, .int .u8 0, .int .u8 0, .int .u8 0] 5)) := fun _ => by kernel_rfl
theorem make_17 : ∀ w : World, (Instr.makeSlice 75 (.int .i64 17) (.int .i64 17)).run Tryz.prog w = .ok (.slice (some ⟨w.heap.size, 0, none⟩) 17 17) (w.alloc (.cells #[.int .u8 0, .int .u8 0, .int .u8 0, .int .u8 0, .int .u8 0, .int .u8 0, .int .u8 0, .int .u8 0, .int .u8 0, .int .u8 0, .int .u8 0, .int .u8 0, .int .u8 0, .int .u8 0, .int .u8 0, .int .u8 0, .int .u8 0] 5)) := fun _ => by kernel_rfl
theorem make_18 : ∀ w : World, (Instr.makeSlice 75 (.int .i64 18) (.int .i64 18)).run Tryz.prog w = .ok (.slice (some ⟨w.heap.size, 0, none⟩) 18 18) (w.alloc (.cells #[.int .u8 0, .int .u8 0, .int .u8 0, .int .u8 0, .int .u8 0, .int .u8 0, .int .u8 0, .int .u8 0, .int .u8 0, .int .u8 0, .int .u8 0, .int .u8 0, .int .u8 0, .int .u8 0, .int .u8 0, .int .u8 0, .int .u8 0, .int .u8 0] 5)) := fun _ => by kernel_rfl
theorem make_19 : ∀ w : World, (Instr.makeSlice 75 (.int .i64 19) (.int .i64 19)).run Tryz.prog w = .ok (.slice (some ⟨w.heap.size, 0, none⟩) 19 19) (w.alloc (.cells #[.int .u8 0, .int .u8 0, .int .u8 0, .int .u8 0, .int .u8 0, .int .u8 0, .int .u8 0, .int .u8 0, .int .u8 0, .int .u8 0, .int .u8 0, .int .u8 0, .int .u8 0, .int .u8 0, .int .u8 0, .int .u8 0, .int .u8 0, .int .u8 0, .int .u8 0] 5)) := fun _ => by kernel_rfl
theorem make_20 : ∀ w : World, (Instr.makeSlice 75 (.int .i64 20) (.int .i64 20)).run Tryz.prog w = .ok (.slice (some ⟨w.heap.size, 0, none⟩) 20 20) (w.alloc (.cells #[.int .u8 0, .int .u8 0, .int .u8 0, .int .u8 0, .int .u8 0, .int .u8 0, .int .u8 0, .int .u8 0, .int .u8 0, .int .u8 0, .int .u8 0, .int .u8 0, .int .u8 0, .int .u8 0, .int .u8 0, .int .u8 0, .int .u8 0, .int .u8 0, .int .u8 0, .int .u8 0] 5)) := fun _ => by kernel_rfl
theorem make_21 : ∀ w : World, (Instr.makeSlice 75 (.int .i64 21) (.int .i64 21)).run Tryz.prog w = .ok (.slice (some ⟨w.heap.size, 0, none⟩) 21 21) (w.alloc (.cells #[.int .u8 0, .int .u8 0, .int .u8 0, .int .u8 0, .int .u8 0, .int .u8 0, .int .u8 0, .int .u8 0, .int .u8 0, .int .u8 0, .int .u8 0, .int .u8 0, .int .u8 0, .int .u8 0, .int .u8 0, .int .u8 0, .int .u8 0, .int .u8 0, .int .u8 0, .int .u8 0, .int .u8 0] 5)) := fun _ => by kernel_rfl
theorem make_22 : ∀ w : World, (Instr.makeSlice 75 (.int .i64 22) (.int .i64 22)).run Tryz.prog w = .ok (.slice (some ⟨w.heap.size, 0, none⟩) 22 22) (w.alloc (.cells #[.int .u8 0, .int .u8 0, .int .u8 0, .int .u8 0, .int .u8 0, .int .u8 0, .int .u8 0, .int .u8 0, .int .u8 0, .int .u8 0, .int .u8 0, .int .u8 0, .int .u8 0, .int .u8 0, .int .u8 0, .int .u8 0, .int .u8 0, .int .u8 0, .int .u8 0, .int .u8 0, .int .u8 0, .int .u8 0] 5)) := fun _ => by kernel_rfl
theorem make_23 : ∀ w : World, (Instr.makeSlice 75 (.int .i64 23) (.int .i64 23)).run Tryz.prog w = .ok (.slice (some ⟨w.heap.size, 0, none⟩) 23 23) (w.alloc (.cells #[.int .u8 0, .int .u8 0, .int .u8 0, .int .u8 0, .int .u8 0, .int .u8 0, .int .u8 0, .int .u8 0, .int .u8 0, .int .u8 0, .int .u8 0, .int .u8 0, .int .u8 0, .int .u8 0, .int .u8 0, .int .u8 0, .int .u8 0, .int .u8 0, .int .u8 0, .int .u8 0, .int .u8 0, .int .u8 0, .int .u8 0] 5)) := fun _ => by kernel_rfl
theorem make_24 : ∀ w : World, (Instr.makeSlice 75 (.int .i64 24) (.int .i64 24)).run Tryz.prog w = .ok (.slice (some ⟨w.heap.size, 0, none⟩) 24 24) (w.alloc (.cells #[.int .u8 0, .int .u8 0, .int .u8 0, .int .u8 0, .int .u8 0, .int .u8 0, .int .u8 0, .int .u8 0, .int .u8 0, .int .u8 0, .int .u8 0, .int .u8 0, .int .u8 0, .int .u8 0, .int .u8 0, .int .u8 0, .int .u8 0, .int .u8 0, .int .u8 0, .int .u8 0, .int .u8 0, .int .u8 0, .int .u8 0, .int .u8 0] 5)) := fun _ => by kernel_rfl
theorem make_25 : ∀ w : World, (Instr.makeSlice 75 (.int .i64 25) (.int .i64 25)).run Tryz.prog w = .ok (.slice (some ⟨w.heap.size, 0, none⟩) 25 25) (w.alloc (.cells #[.int .u8 0, .int .u8 0, .int .u8 0, .int .u8 0, .int .u8 0, .int .u8 0, .int .u8 0, .int .u8 0, .int .u8 0, .int .u8 0, .int .u8 0, .int .u8 0, .int .u8 0, .int .u8 0, .int .u8 0, .int .u8 0, .int .u8 0, .int .u8 0, .int .u8 0, .int .u8 0, .int .u8 0, .int .u8 0, .int .u8 0, .int .u8 0, .int .u8 0] 5)) := fun _ => by kernel_rfl
theorem make_26 : ∀ w : World, (Instr.makeSlice 75 (.int .i64 26) (.int .i64 26)).run Tryz.prog w = .ok (.slice (some ⟨w.heap.size, 0, none⟩) 26 26) (w.alloc (.cells #[.int .u8 0, .int .u8 0, .int .u8 0, .int .u8 0, .int .u8 0, .int .u8 0, .int .u8 0, .int .u8 0, .int .u8 0, .int .u8 0, .int .u8 0, .int .u8 0, .int .u8 0, .int .u8 0, .int .u8 0, .int .u8 0, .int .u8 0, .int .u8 0, .int .u8 0, .int .u8 0, .int .u8 0, .int .u8 0, .int .u8 0, .int .u8 0, .int .u8 0, .int .u8 0] 5)) := fun _ => by kernel_rfl
theorem make_27 : ∀ w : World, (Instr.makeSlice 75 (.int .i64 27) (.int .i64 27)).run Tryz.prog w = .ok (.slice (some ⟨w.heap.size, 0, none⟩) 27 27) (w.alloc (.cells #[.int .u8 0, .int .u8 0, .int .u8 0, .int .u8 0, .int .u8 0, .int .u8 0, .int .u8 0, .int .u8 0, .int .u8 0, .int .u8 0, .int .u8 0, .int .u8 0, .int .u8 0, .int .u8 0, .int .u8 0, .int .u8 0, .int .u8 0, .int .u8 0, .int .u8 0, .int .u8 0, .int .u8 0, .int .u8 0, .int .u8 0, .int .u8 0, .int .u8 0, .int .u8 0, .int .u8 0] 5)) := fun _ => by kernel_rfl
theorem make_28 : ∀ w : World, (Instr.makeSlice 75 (.int .i64 28) (.int .i64 28)).run Tryz.prog w = .ok (.slice (some ⟨w.heap.size, 0, none⟩) 28 28) (w.alloc (.cells #[.int .u8 0, .int .u8 0, .int .u8 0, .int .u8 0, .int .u8 0, .int .u8 0, .int .u8 0, .int .u8 0, .int .u8 0, .int .u8 0, .int .u8 0, .int .u8 0, .int .u8 0, .int .u8 0, .int .u8 0, .int .u8 0, .int .u8 0, .int .u8 0, .int .u8 0, .int .u8 0, .int .u8 0, .int .u8 0, .int .u8 0, .int .u8 0, .int .u8 0, .int .u8 0, .int .u8 0, .int .u8 0] 5)) := fun _ => by kernel_rfl
theorem make_29 : ∀ w : World, (Instr.makeSlice 75 (.int .i64 29) (.int .i64 29)).run Tryz.prog w = .ok (.slice (some ⟨w.heap.size, 0, none⟩) 29 29) (w.alloc (.cells #[.int .u8 0, .int .u8 0, .int .u8 0, .int .u8 0, .int .u8 0, .int .u8 0, .int .u8 0, .int .u8 0, .int .u8 0, .int .u8 0, .int .u8 0, .int .u8 0, .int .u8 0, .int .u8 0, .int .u8 0, .int .u8 0, .int .u8 0, .int .u8 0, .int .u8 0, .int .u8 0, .int .u8 0, .int .u8 0, .int .u8 0, .int .u8 0, .int .u8 0, .int .u8 0, .int .u8 0, .int .u8 0, .int .u8 0] 5)) := fun _ => by kernel_rfl
theorem make_30 : ∀ w : World, (Instr.makeSlice 75 (.int .i64 30) (.int .i64 30)).run Tryz.prog w = .ok (.slice (some ⟨w.heap.size, 0, none⟩) 30 30) (w.alloc (.cells #[.int .u8 0, .int .u8 0, .int .u8 0, .int .u8 0, .int .u8 0, .int .u8 0, .int .u8 0, .int .u8 0, .int .u8 0, .int .u8 0, .int .u8 0, .int .u8 0, .int .u8 0, .int .u8 0, .int .u8 0, .int .u8 0, .int .u8 0, .int .u8 0, .int .u8 0, .int .u8 0, .int .u8 0, .int .u8 0, .int .u8 0, .int .u8 0, .int .u8 0, .int .u8 0, .int .u8 0, .int .u8 0, .int .u8 0, .int .u8 0] 5)) := fun _ => by kernel_rfl
theorem make_31 : ∀ w : World, (Instr.makeSlice 75 (.int .i64 31) (.int .i64 31)).run Tryz.prog w = .ok (.slice (some ⟨w.heap.size, 0, none⟩) 31 31) (w.alloc (.cells #[.int .u8 0, .int .u8 0, .int .u8 0, .int .u8 0, .int .u8 0, .int .u8 0, .int .u8 0, .int .u8 0, .int .u8 0, .int .u8 0, .int .u8 0, .int .u8 0, .int .u8 0, .int .u8 0, .int .u8 0, .int .u8 0, .int .u8 0, .int .u8 0, .int .u8 0, .int .u8 0, .int .u8 0, .int .u8 0, .int .u8 0, .int .u8 0, .int .u8 0, .int .u8 0, .int .u8 0, .int .u8 0, .int .u8 0, .int .u8 0, .int .u8 0] 5)) := fun _ => by kernel_rfl
theorem make_32 : ∀ w : World, (Instr.makeSlice 75 (.int .i64 32) (.int .i64 32)).run Tryz.prog w = .ok (.slice (some ⟨w.heap.size, 0, none⟩) 32 32) (w.alloc (.cells #[.int .u8 0, .int .u8 0, .int .u8 0, .int .u8 0, .int .u8 0, .int .u8 0, .int .u8 0, .int .u8 0, .int .u8 0, .int .u8 0, .int .u8 0, .int .u8 0, .int .u8 0, .int .u8 0, .int .u8 0, .int .u8 0, .int .u8 0, .int .u8 0, .int .u8 0, .int .u8 0, .int .u8 0, .int .u8 0, .int .u8 0, .int .u8 0, .int .u8 0, .int .u8 0, .int .u8 0, .int .u8 0, .int .u8 0, .int .u8 0, .int .u8 0, .int .u8 0] 5)) := fun _ => by kernel_rfl
theorem make_any (n : Nat) (h : n ≤ 32) (w : World) : (Instr.makeSlice 75 (.int .i64 (n : Int)) (.int .i64 (n : Int))).run Tryz.prog w = .ok (.slice (some ⟨w.heap.size, 0, none⟩) n n) (w.alloc (.cells (List.replicate n (.int .u8 0)).toArray 5)) := by
  have : n = 0 ∨ n = 1 ∨ n = 2 ∨ n = 3 ∨ n = 4 ∨ n = 5 ∨ n = 6 ∨ n = 7 ∨ n = 8 ∨ n = 9 ∨ n = 10 ∨ n = 11 ∨ n = 12 ∨ n = 13 ∨ n = 14 ∨ n = 15 ∨ n = 16 ∨ n = 17 ∨ n = 18 ∨ n = 19 ∨ n = 20 ∨ n = 21 ∨ n = 22 ∨ n = 23 ∨ n = 24 ∨ n = 25 ∨ n = 26 ∨ n = 27 ∨ n = 28 ∨ n = 29 ∨ n = 30 ∨ n = 31 ∨ n = 32 := by omega
  rcases this with rfl | rfl | rfl | rfl | rfl | rfl | rfl | rfl | rfl | rfl | rfl | rfl | rfl | rfl | rfl | rfl | rfl | rfl | rfl | rfl | rfl | rfl | rfl | rfl | rfl | rfl | rfl | rfl | rfl | rfl | rfl | rfl | rfl
  · exact make_0 w
  · exact make_1 w
  · exact make_2 w
  · exact make_3 w
  · exact make_4 w
  · exact make_5 w
  · exact make_6 w
  · exact make_7 w
  · exact make_8 w
  · exact make_9 w
  · exact make_10 w
  · exact make_11 w
  · exact make_12 w
  · exact make_13 w
  · exact make_14 w
  · exact make_15 w
  · exact make_16 w
  · exact make_17 w
  · exact make_18 w
  · exact make_19 w
  · exact make_20 w
  · exact make_21 w
  · exact make_22 w
  · exact make_23 w
  · exact make_24 w
  · exact make_25 w
  · exact make_26 w
  · exact make_27 w
  · exact make_28 w
  · exact make_29 w
  · exact make_30 w
  · exact make_31 w
  · exact make_32 w

theorem zeros_any (n : Nat) (W : World) : (convert 75 9 (.slice (some ⟨W.heap.size, 0, none⟩) n n)).run Tryz.prog (W.alloc (.cells (List.replicate n (.int .u8 0)).toArray 5)) = .ok (.string ⟨(List.replicate n (0 : UInt8)).toArray⟩) (W.alloc (.cells (List.replicate n (.int .u8 0)).toArray 5)) := by
  have h := run_convert_bytes_back (W.alloc (.cells (List.replicate n (.int .u8 0)).toArray 5)) 75 9 5 ⟨W.heap.size, 0, none⟩ n (List.replicate n (0 : UInt8)) Tryz.underlying75 Tryz.underlying5 Tryz.underlying9 (fun j hj => by
    have hj' : j < n := by simpa using hj
    have e : (⟨W.heap.size, 0, none⟩ : Addr).add j = ⟨W.heap.size, j, none⟩ := by unfold Addr.add; split <;> simp_all
    rw [e, World.cell?_alloc_new]
    simp [hj'])
  rw [List.length_replicate] at h
  exact h

theorem head_zero (c : UInt8) (r : List UInt8) (hc : ¬ c = 0) : ((((⟨(c :: r).toArray⟩ : ByteArray)[0]'(by simp [ByteArray.size])).toNat : Int) == 0) = false := by
  rw [beq_eq_false_iff_ne]
  intro h
  apply hc
  apply UInt8.toNat.inj
  have h' : (c.toNat : Int) = 0 := h
  show c.toNat = 0
  omega

theorem rparse_spare (r : List UInt8) (w : World) (h : r.length + 1 ≤ 32) :
    Calls Tryz.prog 190 #[.string ⟨(0 :: r).toArray⟩] w fun e w' => e = .returned (.tuple #[wd 0 0 0 0, .int .i64 8]) ∧ Below w.heap.size w w' := by
  go_enter Tryz.func190, Tryz.ntmps190
  go_wp2_with fail
  refine bodyPost_ret (v := .tuple #[wd 0 0 0 0, .int .i64 8]) (by simp [results, Tryz.results190, go_sem]) rfl ⟨rfl, ?_⟩
  (repeat (first | exact Below.refl _ _ | refine Below.drew ?_ | refine Below.alloc ?_ (by first | omega | (simp; omega) | simp) _ | refine Below.setCell ?_ (by first | omega | (simp; omega) | simp) _))
end Go.Proofs.YtebjhbeaknokkaaGreatDoor
namespace Go.Proofs.YtebjhbeaknokkaaGreatDoor
open Go Go.RowKit

set_option maxRecDepth 100000 in
set_option maxHeartbeats 4000000 in
theorem rparse_ok (c : UInt8) (r : List UInt8) (w : World) (h : r.length + 1 ≤ 32) (hc : ¬ c = 0) :
    Calls Tryz.prog 190 #[.string ⟨(c :: r).toArray⟩] w fun e w' => e = .returned (.tuple #[wn (M.dg (c :: r)), .int .i64 0]) ∧ Below w.heap.size w w' := by
  obtain ⟨n, hn⟩ : ∃ n, n = 31 - r.length := ⟨_, rfl⟩
  have hn32 : n ≤ 32 := by omega
  have hmk : ∀ w : World, (Instr.makeSlice 75 (.int .i64 (32 - ((r.length : Int) + 1))) (.int .i64 (32 - ((r.length : Int) + 1)))).run Tryz.prog w = .ok (.slice (some ⟨w.heap.size, 0, none⟩) n n) (w.alloc (.cells (Array.replicate n (.int .u8 0)) 5)) := fun w => by
    have := make_any n hn32 w
    rw [List.toArray_replicate] at this
    rw [show (n : Int) = 32 - ((r.length : Int) + 1) by omega] at this
    exact this
  have hcv : (convert 75 9 (.slice (some ⟨w.heap.size + 1, 0, none⟩) n n)).run Tryz.prog ((w.alloc (.cells #[.int .u64 0, .int .u64 0, .int .u64 0, .int .u64 0] 88)).alloc (.cells (Array.replicate n (.int .u8 0)) 5)) = .ok (.string ⟨(List.replicate n (0 : UInt8)).toArray⟩) ((w.alloc (.cells #[.int .u64 0, .int .u64 0, .int .u64 0, .int .u64 0] 88)).alloc (.cells (Array.replicate n (.int .u8 0)) 5)) := by
    have := zeros_any n (w.alloc (.cells #[.int .u64 0, .int .u64 0, .int .u64 0, .int .u64 0] 88))
    rw [World.size_alloc, List.toArray_replicate] at this
    exact this
  have HN := Lib.hid hn
  clear hn
  have hcb := head_zero c r hc
  have hz1 : (List.replicate n (0 : UInt8)).length ≤ 32 := by simpa using hn32
  have HZ := Lib.hid (rfl : List.replicate n (0 : UInt8) = List.replicate n (0 : UInt8))
  generalize hzs : List.replicate n (0 : UInt8) = zs at *
  have HS := Lib.hid hzs
  clear hzs HZ
  have hno : ¬ 9223372036854775807 < zs.length + (r.length + 1) := by omega
  go_enter Tryz.func190, Tryz.ntmps190
  go_wp2_with fail
  clear hmk hcv
  rw [cat_eq]
  refine (runfixed_any (zs ++ (c :: r)) _ (by rw [← HS.out]; have := HN.out; simp; omega)).mono ?_
  rintro e w3 ⟨rfl, hb3⟩
  rw [show M.dg (zs ++ (c :: r)) = M.dg (c :: r) from by rw [← HS.out]; exact M.dg_zeros _ _]
  have hb4 := Below.trans ((Below.refl (w.alloc (Obj.cells #[.int .u64 0, .int .u64 0, .int .u64 0, .int .u64 0] 88)).heap.size (w.alloc (Obj.cells #[.int .u64 0, .int .u64 0, .int .u64 0, .int .u64 0] 88))).alloc (Nat.le_refl _) (Obj.cells (Array.replicate n (Value.int .u8 0)) 5)) (hb3.mono (by simp))
  clear hb3
  obtain ⟨hce, hfr⟩ := bcell hb4
  go_wp2_with fail
  refine bodyPost_ret (v := .tuple #[wn (M.dg (c :: r)), .int .i64 0]) (by simp [results, Tryz.results190, go_sem, hce]) rfl ⟨rfl, ?_⟩
  refine Below.setCell (Below.setCell (Below.setCell (Below.setCell (Below.trans ?_ (hb4.mono (by first | omega | (simp; omega) | simp))) (by first | omega | (simp; omega) | simp) _) (by first | omega | (simp; omega) | simp) _) (by first | omega | (simp; omega) | simp) _) (by first | omega | (simp; omega) | simp) _
  (repeat (first | exact Below.refl _ _ | refine Below.drew ?_ | refine Below.alloc ?_ (by first | omega | (simp; omega) | simp) _ | refine Below.setCell ?_ (by first | omega | (simp; omega) | simp) _))

set_option maxRecDepth 100000 in
set_option maxHeartbeats 4000000 in
theorem rparse_none (w : World) :
    Calls Tryz.prog 190 #[.string ⟨#[]⟩] w fun e w' => e = .returned (.tuple #[wn (M.dg ([])), .int .i64 0]) ∧ Below w.heap.size w w' := by
  obtain ⟨n, hn⟩ : ∃ n, n = 32 := ⟨_, rfl⟩
  have hn32 : n ≤ 32 := by omega
  have hmk : ∀ w : World, (Instr.makeSlice 75 (.int .i64 (32)) (.int .i64 (32))).run Tryz.prog w = .ok (.slice (some ⟨w.heap.size, 0, none⟩) n n) (w.alloc (.cells (Array.replicate n (.int .u8 0)) 5)) := fun w => by
    have := make_any n hn32 w
    rw [List.toArray_replicate] at this
    rw [show (n : Int) = 32 by omega] at this
    exact this
  have hcv : (convert 75 9 (.slice (some ⟨w.heap.size + 1, 0, none⟩) n n)).run Tryz.prog ((w.alloc (.cells #[.int .u64 0, .int .u64 0, .int .u64 0, .int .u64 0] 88)).alloc (.cells (Array.replicate n (.int .u8 0)) 5)) = .ok (.string ⟨(List.replicate n (0 : UInt8)).toArray⟩) ((w.alloc (.cells #[.int .u64 0, .int .u64 0, .int .u64 0, .int .u64 0] 88)).alloc (.cells (Array.replicate n (.int .u8 0)) 5)) := by
    have := zeros_any n (w.alloc (.cells #[.int .u64 0, .int .u64 0, .int .u64 0, .int .u64 0] 88))
    rw [World.size_alloc, List.toArray_replicate] at this
    exact this
  have HN := Lib.hid hn
  clear hn
  have hz1 : (List.replicate n (0 : UInt8)).length ≤ 32 := by simpa using hn32
  have HZ := Lib.hid (rfl : List.replicate n (0 : UInt8) = List.replicate n (0 : UInt8))
  generalize hzs : List.replicate n (0 : UInt8) = zs at *
  have HS := Lib.hid hzs
  clear hzs HZ
  have hno : ¬ 9223372036854775807 < zs.length + 0 := by omega
  go_enter Tryz.func190, Tryz.ntmps190
  go_wp2_with fail
  clear hmk hcv
  rw [show ((⟨zs.toArray⟩ : ByteArray) ++ (⟨#[]⟩ : ByteArray)) = ⟨(zs ++ []).toArray⟩ from cat_eq zs []]
  refine (runfixed_any (zs ++ ([])) _ (by rw [← HS.out]; have := HN.out; simp; omega)).mono ?_
  rintro e w3 ⟨rfl, hb3⟩
  rw [show M.dg (zs ++ ([])) = M.dg ([]) from by rw [← HS.out]; exact M.dg_zeros _ _]
  have hb4 := Below.trans ((Below.refl (w.alloc (Obj.cells #[.int .u64 0, .int .u64 0, .int .u64 0, .int .u64 0] 88)).heap.size (w.alloc (Obj.cells #[.int .u64 0, .int .u64 0, .int .u64 0, .int .u64 0] 88))).alloc (Nat.le_refl _) (Obj.cells (Array.replicate n (Value.int .u8 0)) 5)) (hb3.mono (by simp))
  clear hb3
  obtain ⟨hce, hfr⟩ := bcell hb4
  go_wp2_with fail
  refine bodyPost_ret (v := .tuple #[wn (M.dg ([])), .int .i64 0]) (by simp [results, Tryz.results190, go_sem, hce]) rfl ⟨rfl, ?_⟩
  refine Below.setCell (Below.setCell (Below.setCell (Below.setCell (Below.trans ?_ (hb4.mono (by first | omega | (simp; omega) | simp))) (by first | omega | (simp; omega) | simp) _) (by first | omega | (simp; omega) | simp) _) (by first | omega | (simp; omega) | simp) _) (by first | omega | (simp; omega) | simp) _
  (repeat (first | exact Below.refl _ _ | refine Below.drew ?_ | refine Below.alloc ?_ (by first | omega | (simp; omega) | simp) _ | refine Below.setCell ?_ (by first | omega | (simp; omega) | simp) _))
end Go.Proofs.YtebjhbeaknokkaaGreatDoor
namespace Go.Proofs.YtebjhbeaknokkaaGreatDoor
open Go Go.RowKit Go.Lib
attribute [local go_sem] Oper.semAt_some

theorem M.pt0 {N : Nat} (h : N < 18446744073709551616) : M.pt 0 N = (N : Int) := by unfold M.pt; rw [Nat.pow_zero, Nat.div_one, Nat.mod_eq_of_lt h]
set_option maxRecDepth 100000 in
set_option maxHeartbeats 1000000 in
theorem runbe_any (d : List UInt8) (w : World) : Calls Tryz.prog 116 #[.string ⟨d.toArray⟩] w fun e w' => e = .returned (.tuple #[.int .u64 ((M.ub d).1 : Nat), .int .i64 ((M.ub d).2 : Nat)]) ∧ Below w.heap.size w w' := by
  by_cases h8 : 8 < d.length
  · have e0 : M.ub d = (0, 5) := by unfold M.ub; rw [if_pos h8]
    have h8' : (8 : Int) < (d.length : Nat) := by omega
    rw [e0]
    go_enter Tryz.func116, Tryz.ntmps116
    go_wp2_with fail
    go_ret2
    exact ⟨rfl, Below.refl _ _⟩
  · have h8' : ¬ (8 : Int) < (d.length : Nat) := by omega
    cases d with
    | nil =>
      have e0 : M.ub [] = (0, 0) := rfl
      have hp := rparse_none w
      have hd : (wn (M.dg [])) = wd 0 0 0 0 := by kernel_rfl
      rw [hd] at hp
      rw [e0]
      clear h8 h8'
      go_enter Tryz.func116, Tryz.ntmps116
      go_wp2_with fail
      refine (hp).mono ?_
      rintro e w1 ⟨rfl, hb1⟩
      go_wp2_with fail
      go_ret2
      exact ⟨rfl, hb1.alloc hb1.size _⟩
    | cons c r =>
      by_cases hc : c = 0
      · subst hc
        have e0 : M.ub (0 :: r) = (0, 8) := by unfold M.ub; rw [if_neg h8, if_pos (by simp [Lib.hasPrefix])]
        rw [e0]
        have hp := rparse_spare r w (by simp at h8; omega)
        go_enter Tryz.func116, Tryz.ntmps116
        go_wp2_with fail
        refine (hp).mono ?_
        rintro e w1 ⟨rfl, hb1⟩
        go_wp2_with fail
        go_ret2
        exact ⟨rfl, hb1.alloc hb1.size _⟩
      · have hlt := M.dg_lt8 (l := c :: r) (by omega)
        have e0 : M.ub (c :: r) = (M.dg (c :: r), 0) := by unfold M.ub; rw [if_neg h8, if_neg (by simp [Lib.hasPrefix]; exact fun q => hc q.symm)]
        rw [e0]
        have hp := rparse_ok c r w (by simp at h8; omega) hc
        rw [show wn (M.dg (c :: r)) = wd (M.pt 0 (M.dg (c :: r))) (M.pt 1 (M.dg (c :: r))) (M.pt 2 (M.dg (c :: r))) (M.pt 3 (M.dg (c :: r))) from rfl, M.pt0 hlt] at hp
        generalize M.dg (c :: r) = N at *
        generalize M.pt 1 N = p1 at *
        generalize M.pt 2 N = p2 at *
        generalize M.pt 3 N = p3 at *
        clear e0 hc
        generalize c :: r = d at *
        go_enter Tryz.func116, Tryz.ntmps116
        go_wp2_with fail
        refine (hp).mono ?_
        rintro e w1 ⟨rfl, hb1⟩
        go_wp2_with fail
        go_ret2
        exact ⟨rfl, hb1.alloc hb1.size _⟩
set_option maxRecDepth 100000 in
theorem rgn_any (l : Bool) (d : List UInt8) (xs : List M.It) (a : Option Addr) (cap : Nat) (w : World) :
    Calls Tryz.prog 72 #[iv l d (.slice a xs.length cap)] w fun e w' => e = .returned (.tuple #[.int .u64 ((M.getNumber (.mk l d xs)).1 : Nat), .int .i64 ((M.getNumber (.mk l d xs)).2 : Nat)]) ∧ Below w.heap.size w w' := by
  have hbx := Box.new w l d (.slice a xs.length cap) 44
  obtain ⟨w0, hw0⟩ : ∃ w0, w.alloc (.cells #[.bool l, .string ⟨d.toArray⟩, .slice a xs.length cap] 44) = w0 := ⟨_, rfl⟩
  have hb0 : Below w.heap.size w w0 := by rw [← hw0]; exact (Below.refl _ _).alloc (Nat.le_refl _) _
  rw [hw0] at hbx
  have p0 := hbx.c0
  have p1 := hbx.c1
  have HB := Lib.hid hb0
  have HW := Lib.hid hw0
  have HU := Lib.hid (runbe_any d w0)
  clear hbx hw0 hb0
  cases l with
  | true =>
    have e0 : M.getNumber (.mk true d xs) = (0, 2) := rfl
    rw [e0]
    go_enter Tryz.func72, Tryz.ntmps72
    go_wp2_with (rw [HW.out])
    go_ret2
    exact ⟨rfl, HB.out⟩
  | false =>
    have e0 : M.getNumber (.mk false d xs) = M.ub d := rfl
    rw [e0]
    generalize M.ub d = r at *
    go_enter Tryz.func72, Tryz.ntmps72
    go_wp2_with (rw [HW.out])
    try rw [HW.out]
    refine HU.out.mono ?_
    rintro e w1 ⟨rfl, hb1⟩
    go_wp2_with fail
    go_ret2
    exact ⟨rfl, HB.out.trans (hb1.mono HB.out.size)⟩
theorem M.firstE_at {es : List Nat} {n : Nat} {e : Nat} (h : ∀ x ∈ es.take n, x = 0) (he : es[n]? = some e) (h0 : e ≠ 0) : M.firstE es = e := by
  rw [M.firstE_take h, List.drop_eq_getElem_cons (List.getElem?_eq_some_iff.1 he).1, (List.getElem?_eq_some_iff.1 he).2, M.firstE, if_pos h0]
theorem M.firstE_none {es : List Nat} (h : ∀ x ∈ es, x = 0) : M.firstE es = 0 := by
  rw [M.firstE_take (k := es.length) (by simpa using h), List.drop_length]
  rfl
set_option maxRecDepth 100000 in
theorem rfirst_any (es : List Nat) (b cap : Nat) (w : World) (hl : es.length ≤ 100) (hc : ∀ i e, es[i]? = some e → w.cell? ⟨b, i, none⟩ = some (.int .i64 (e : Nat))) :
    Calls Tryz.prog 74 #[.slice (some ⟨b, 0, none⟩) es.length cap] w fun e w' => e = .returned (.int .i64 (M.firstE es : Nat)) ∧ Below w.heap.size w w' := by
  obtain ⟨R, hR⟩ : ∃ R, M.firstE es = R := ⟨_, rfl⟩
  rw [hR]
  have HR := Lib.hid hR
  have HC := Lib.hid hc
  clear hR hc
  go_enter Tryz.func74, Tryz.ntmps74
  go_wp2_with fail
  go_loopw [3] (fun i wr => ∃ n : Nat, n ≤ es.length ∧ i = .int .i64 n ∧ wr = w ∧ ∀ g ∈ es.take n, g = 0) (fun i _ => es.length - (RowKit.intOf i).toNat)
  case atStart => exact ⟨0, Nat.zero_le _, rfl, rfl, by simp⟩
  case round =>
    obtain ⟨n, hn, rfl, rfl, hG⟩ := hrel
    by_cases hlt : n < es.length
    · have hlti : (n : Int) < es.length := by omega
      obtain ⟨e, he⟩ : ∃ e, es[n]? = some e := ⟨_, List.getElem?_eq_getElem hlt⟩
      have hce := HC.out n e he
      have HGn := Lib.hid he
      have HGt := Lib.hid hG
      clear hG he
      by_cases h0 : e = 0
      · subst h0
        have hce0 : wr.cell? ⟨b, n, none⟩ = some (.int .i64 0) := hce
        clear hce
        go_wp2_with fail
        go_roundw
        case rel => exact ⟨n + 1, by omega, by simp, by first | rfl | trivial, fun x hx => by
          rw [List.take_add_one, HGn.out] at hx
          rcases List.mem_append.1 hx with hx | hx
          · exact HGt.out x hx
          · simpa using hx⟩
        case measure => simp [RowKit.intOf]; omega
      · have h1 : ((e : Int) == 0) = false := by simp [h0]
        have h2 : ¬ (e : Int) = 0 := by omega
        obtain rfl : R = e := HR.out.symm.trans (M.firstE_at HGt.out HGn.out h0)
        go_wp2_with fail
        go_ret
        exact ⟨rfl, Below.refl _ _⟩
    · obtain rfl : n = es.length := by omega
      rw [List.take_length] at hG
      obtain rfl : R = 0 := HR.out.symm.trans (M.firstE_none hG)
      go_wp2_with fail
      go_ret
      exact ⟨rfl, Below.refl _ _⟩
end Go.Proofs.YtebjhbeaknokkaaGreatDoor
