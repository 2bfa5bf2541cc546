/- Frames, plainly. -/
import Derived.Test.YtgeeoefcepjniaaM2
namespace Go.Proofs.Ytgeeoefcepjniaa.M

structure Fr where
  id : List UInt8
  num : Int
  data : List UInt8
  last : Bool
def chkF (f : Fr) : Nat := if f.id.length = 16 ∧ 0 ≤ f.num ∧ f.num ≤ 65535 then (if f.data.length ≤ 4096 then 0 else 5) else 2
def lstB (b : Bool) : UInt8 := if b then 1 else 0
def bytF (f : Fr) : List UInt8 := f.id ++ (be 2 f.num.toNat ++ (be 4 f.data.length ++ (f.data ++ [lstB f.last])))
def oneF (f : Fr) : List UInt8 × Nat := if chkF f = 0 then (bytF f, 0) else ([], chkF f)
def firF : List Fr → Nat
  | [] => 0
  | f :: fs => if chkF f = 0 then firF fs else chkF f
def allF (fs : List Fr) : List UInt8 := fs.flatMap bytF
def putF (fs : List Fr) : List UInt8 × Nat := if fs.length = 0 then ([], 2) else if 32 < fs.length then ([], 5) else if firF fs = 0 then (0 :: allF fs, 0) else ([], firF fs)
def noF : Fr := ⟨[], 0, [], false⟩
def lenF (t : List UInt8) : Nat := dg ((t.drop 18).take 4)
def endF (t : List UInt8) : Nat := ((t.drop (22 + lenF t)).headD 0).toNat
def isF (t : List UInt8) : Fr := ⟨t.take 16, ((dg ((t.drop 16).take 2) : Nat) : Int), (t.drop 22).take (lenF t), decide (endF t = 1)⟩
def leadE (t : List UInt8) : Nat :=
  if t.length < 22 then 3 else if 4096 < lenF t then 5 else if t.length < 23 + lenF t then 3 else if 1 < endF t then 2 else 0
def getR : Nat → List UInt8 → List Fr × Nat
  | 0, _ => ([], 5)
  | m + 1, t => if leadE t ≠ 0 then ([], leadE t) else if t.length = 23 + lenF t then ([isF t], 0)
    else if (getR m (t.drop (23 + lenF t))).2 = 0 then (isF t :: (getR m (t.drop (23 + lenF t))).1, 0) else ([], (getR m (t.drop (23 + lenF t))).2)
def getF : List UInt8 → List Fr × Nat
  | [] => ([], 3)
  | c :: t => if c.toNat = 0 then getR 32 t else ([], 9)

theorem Fr.ext_ {f g : Fr} (h1 : f.id = g.id) (h2 : f.num = g.num) (h3 : f.data = g.data) (h4 : f.last = g.last) : f = g := by
  cases f; cases g; simp_all
theorem chkF_ok {f : Fr} (h : chkF f = 0) : f.id.length = 16 ∧ 0 ≤ f.num ∧ f.num ≤ 65535 ∧ f.data.length ≤ 4096 := by
  unfold chkF at h
  split at h
  · rename_i h1
    split at h
    · exact ⟨h1.1, h1.2.1, h1.2.2, by assumption⟩
    · cases h
  · cases h
theorem bytF_length {f : Fr} (h : f.id.length = 16) : (bytF f).length = 23 + f.data.length := by
  unfold bytF
  simp only [List.length_append, be_length, h, List.length_cons, List.length_nil]
  omega
theorem drop_at {a b : List UInt8} {n : Nat} (h : a.length = n) : (a ++ b).drop n = b := by rw [← h, List.drop_left]
theorem take_at {a b : List UInt8} {n : Nat} (h : a.length = n) : (a ++ b).take n = a := by rw [← h, List.take_left]
theorem lstB_toNat (b : Bool) : (lstB b).toNat = if b then 1 else 0 := by cases b <;> rfl

/-- The parts of what is told, where a frame's bytes stand ahead. -/
theorem lead_parts {f : Fr} (h : chkF f = 0) (r : List UInt8) : lenF (bytF f ++ r) = f.data.length ∧ endF (bytF f ++ r) = (if f.last then 1 else 0) ∧ isF (bytF f ++ r) = f ∧ leadE (bytF f ++ r) = 0 := by
  obtain ⟨h1, h2, h3, h4⟩ := chkF_ok h
  have d16 : (bytF f ++ r).drop 16 = be 2 f.num.toNat ++ (be 4 f.data.length ++ (f.data ++ ([lstB f.last] ++ r))) := by
    unfold bytF
    rw [List.append_assoc, drop_at h1]
    simp [List.append_assoc]
  have t16 : (bytF f ++ r).take 16 = f.id := by
    unfold bytF
    rw [List.append_assoc, take_at h1]
  have d18 : (bytF f ++ r).drop 18 = be 4 f.data.length ++ (f.data ++ ([lstB f.last] ++ r)) := by
    rw [show (18 : Nat) = 16 + 2 from rfl, ← List.drop_drop, d16, drop_at (be_length _ _)]
  have d22 : (bytF f ++ r).drop 22 = f.data ++ ([lstB f.last] ++ r) := by
    rw [show (22 : Nat) = 18 + 4 from rfl, ← List.drop_drop, d18, drop_at (be_length _ _)]
  have e1 : lenF (bytF f ++ r) = f.data.length := by
    unfold lenF
    rw [d18, take_at (be_length _ _), dg_be _ _ (by omega)]
  have e2 : endF (bytF f ++ r) = (if f.last then 1 else 0) := by
    unfold endF
    rw [e1, ← List.drop_drop, d22, drop_at rfl]
    exact lstB_toNat _
  have hl : (bytF f ++ r).length = 23 + f.data.length + r.length := by rw [List.length_append, bytF_length h1]
  refine ⟨e1, e2, ?_, ?_⟩
  · unfold isF
    rw [e1, e2, t16, d16, take_at (be_length _ _), dg_be _ _ (by omega), d22, take_at rfl]
    refine Fr.ext_ rfl (by show ((f.num.toNat : Nat) : Int) = f.num; omega) rfl ?_
    cases f.last <;> rfl
  · unfold leadE
    rw [e1, e2, hl, if_neg (by omega), if_neg (by omega), if_neg (by omega)]
    cases f.last
    · rfl
    · rfl
/-- What is told stands there, byte by byte. -/
theorem lead_only {t : List UInt8} (h : leadE t = 0) : chkF (isF t) = 0 ∧ t = bytF (isF t) ++ t.drop (23 + lenF t) ∧ 23 + lenF t ≤ t.length ∧ (isF t).data.length = lenF t := by
  unfold leadE at h
  by_cases h1 : t.length < 22
  · rw [if_pos h1] at h; cases h
  rw [if_neg h1] at h
  by_cases h2 : 4096 < lenF t
  · rw [if_pos h2] at h; cases h
  rw [if_neg h2] at h
  by_cases h3 : t.length < 23 + lenF t
  · rw [if_pos h3] at h; cases h
  rw [if_neg h3] at h
  by_cases h4 : 1 < endF t
  · rw [if_pos h4] at h; cases h
  clear h
  have l1 : (t.take 16).length = 16 := by rw [List.length_take]; omega
  have l2 : ((t.drop 16).take 2).length = 2 := by rw [List.length_take, List.length_drop]; omega
  have l3 : ((t.drop 18).take 4).length = 4 := by rw [List.length_take, List.length_drop]; omega
  have l4 : ((t.drop 22).take (lenF t)).length = lenF t := by rw [List.length_take, List.length_drop]; omega
  have b2 := dg_lt ((t.drop 16).take 2)
  rw [l2] at b2
  have hc : chkF (isF t) = 0 := by
    unfold chkF isF
    simp only
    rw [if_pos ⟨l1, by omega, by omega⟩, if_pos (by omega)]
  have hend : ∃ c, (t.drop (22 + lenF t)) = c :: t.drop (23 + lenF t) ∧ endF t = c.toNat := by
    obtain ⟨c, hcc⟩ : ∃ c, t[22 + lenF t]? = some c := ⟨t[22 + lenF t]'(by omega), List.getElem?_eq_getElem (by omega)⟩
    have e := List.drop_eq_getElem_cons (l := t) (i := 22 + lenF t) (by omega)
    have hg : t[22 + lenF t]'(by omega) = c := by
      rw [List.getElem?_eq_getElem (by omega)] at hcc
      exact Option.some.inj hcc
    rw [hg, show 22 + lenF t + 1 = 23 + lenF t by omega] at e
    exact ⟨c, e, by unfold endF; rw [e]; rfl⟩
  obtain ⟨c, hc1, hc2⟩ := hend
  have hcl : lstB (decide (endF t = 1)) = c := by
    rw [hc2] at h4 ⊢
    have : c.toNat = 0 ∨ c.toNat = 1 := by omega
    rcases this with q | q
    · have : c = 0 := by rw [← UInt8.ofNat_toNat (x := c), q]; rfl
      subst this; rfl
    · have : c = 1 := by rw [← UInt8.ofNat_toNat (x := c), q]; rfl
      subst this; rfl
  refine ⟨hc, ?_, by omega, l4⟩
  unfold bytF isF
  simp only [Int.toNat_natCast]
  have q2 := be_dg ((t.drop 16).take 2)
  rw [l2] at q2
  rw [q2, l4]
  have q3 : be 4 (lenF t) = (t.drop 18).take 4 := by
    have := be_dg ((t.drop 18).take 4)
    rw [l3] at this
    exact this
  rw [q3, hcl]
  have s1 : t = t.take 16 ++ t.drop 16 := (List.take_append_drop _ _).symm
  have s2 : t.drop 16 = (t.drop 16).take 2 ++ t.drop 18 := by
    have := (List.take_append_drop 2 (t.drop 16)).symm
    rwa [List.drop_drop] at this
  have s3 : t.drop 18 = (t.drop 18).take 4 ++ t.drop 22 := by
    have := (List.take_append_drop 4 (t.drop 18)).symm
    rwa [List.drop_drop] at this
  have s4 : t.drop 22 = (t.drop 22).take (lenF t) ++ (c :: t.drop (23 + lenF t)) := by
    have := (List.take_append_drop (lenF t) (t.drop 22)).symm
    rw [List.drop_drop, hc1] at this
    exact this
  calc t = t.take 16 ++ t.drop 16 := s1
    _ = t.take 16 ++ ((t.drop 16).take 2 ++ ((t.drop 18).take 4 ++ ((t.drop 22).take (lenF t) ++ (c :: t.drop (23 + lenF t))))) := by rw [← s4, ← s3, ← s2]
    _ = _ := by simp [List.append_assoc]
theorem allF_cons (f : Fr) (fs : List Fr) : allF (f :: fs) = bytF f ++ allF fs := by simp [allF]
theorem allF_append (fs gs : List Fr) : allF (fs ++ gs) = allF fs ++ allF gs := by simp [allF]
theorem firF_cons {f : Fr} {fs : List Fr} (h : firF (f :: fs) = 0) : chkF f = 0 ∧ firF fs = 0 := by
  unfold firF at h
  split at h
  · exact ⟨by assumption, h⟩
  · exact absurd h (by assumption)
theorem firF_mem {fs : List Fr} (h : firF fs = 0) : ∀ f ∈ fs, chkF f = 0 := by
  induction fs with
  | nil => intro f hf; cases hf
  | cons g fs ih =>
    obtain ⟨h1, h2⟩ := firF_cons h
    intro f hf
    rcases List.mem_cons.1 hf with rfl | q
    · exact h1
    · exact ih h2 f q
theorem firF_of {fs : List Fr} (h : ∀ f ∈ fs, chkF f = 0) : firF fs = 0 := by
  induction fs with
  | nil => rfl
  | cons g fs ih =>
    unfold firF
    rw [if_pos (h g (by simp))]
    exact ih fun f hf => h f (by simp [hf])
theorem bytF_pos {f : Fr} (h : chkF f = 0) : (bytF f).length = 23 + f.data.length := bytF_length (chkF_ok h).1
/-- What is put is got. -/
theorem getR_put (m : Nat) : ∀ fs : List Fr, fs ≠ [] → firF fs = 0 → fs.length ≤ m → getR m (allF fs) = (fs, 0) := by
  induction m with
  | zero => intro fs h1 _ h3; cases fs with
    | nil => exact absurd rfl h1
    | cons => simp at h3
  | succ m ih =>
    intro fs h1 h2 h3
    cases fs with
    | nil => exact absurd rfl h1
    | cons f fs =>
      obtain ⟨c1, c2⟩ := firF_cons h2
      rw [allF_cons]
      obtain ⟨p1, p2, p3, p4⟩ := lead_parts c1 (allF fs)
      rw [getR, p4, p1, p3, List.length_append, bytF_pos c1, if_neg (by simp)]
      rw [drop_at (bytF_pos c1)]
      cases fs with
      | nil => rw [if_pos (by simp [allF])]
      | cons g gs =>
        have hg := bytF_pos (firF_cons c2).1
        rw [if_neg (by rw [allF_cons, List.length_append, hg]; omega), ih (g :: gs) (by simp) c2 (by simpa using h3)]
        rfl
theorem getR_only (m : Nat) : ∀ t : List UInt8, (getR m t).2 = 0 → allF (getR m t).1 = t ∧ firF (getR m t).1 = 0 ∧ 1 ≤ (getR m t).1.length ∧ (getR m t).1.length ≤ m := by
  induction m with
  | zero => intro t h; cases h
  | succ m ih =>
    intro t h
    rw [getR] at h ⊢
    by_cases h1 : leadE t ≠ 0
    · rw [if_pos h1] at h
      exact absurd h h1
    · rw [if_neg h1] at h ⊢
      have h1' : leadE t = 0 := by omega
      obtain ⟨o1, o2, o3, o4⟩ := lead_only h1'
      by_cases h2 : t.length = 23 + lenF t
      · rw [if_pos h2]
        refine ⟨?_, by unfold firF; rw [if_pos o1]; rfl, by simp, by simp⟩
        rw [List.drop_of_length_le (by omega), List.append_nil] at o2
        show allF [isF t] = t
        rw [allF_cons]
        show bytF (isF t) ++ [] = t
        rw [List.append_nil]
        exact o2.symm
      · rw [if_neg h2] at h ⊢
        by_cases h3 : (getR m (t.drop (23 + lenF t))).2 = 0
        · rw [if_pos h3]
          obtain ⟨i1, i2, i3, i4⟩ := ih _ h3
          refine ⟨?_, by unfold firF; rw [if_pos o1]; exact i2, by simp, by simpa using i4⟩
          rw [allF_cons, i1]
          exact o2.symm
        · rw [if_neg h3] at h
          exact absurd h h3
theorem getR_err (m : Nat) (t : List UInt8) (h : (getR m t).2 ≠ 0) : (getR m t).1 = [] := by
  cases m with
  | zero => rfl
  | succ m =>
    rw [getR] at h ⊢
    split
    · rfl
    · split
      · rename_i h1 h2
        rw [if_neg h1, if_pos h2] at h
        exact absurd rfl h
      · split
        · rename_i h1 h2 h3
          rw [if_neg h1, if_neg h2, if_pos h3] at h
          exact absurd rfl h
        · rfl
end Go.Proofs.Ytgeeoefcepjniaa.M
