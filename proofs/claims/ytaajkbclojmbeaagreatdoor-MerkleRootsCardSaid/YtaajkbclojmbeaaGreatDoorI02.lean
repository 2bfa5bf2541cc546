/- Plain: rows: what has so many bytes, and offsets of what has not; what stands behind. Plain arithmetic: how many digits a number has. Plain: values as bytes, by their types; and bytes as values. Plain: what is put is got again; what is got is put just so. Plain: unions, vectors, lists, containers; all types. Plain: a full list, as a vector, as a container; how long what is put is. Plain: a row's bytes, item by item. Plain: the root of a value. Plain: a row of chunks, pair by pair. What every seat leans on. strings.Repeat of a zero byte. How an item lies in memory. Bytes as strings: converted, put together, cut, looked into. Bytes that a call owns: what is appended to them. -/
import Derived.Test.YtaajkbclojmbeaaGreatDoorI01
import Derived.Test.YtaajkbclojmbeaaGreatDoorProg
import Derived.WalkKit
import Derived.Below
import Derived.Laws.Externs
import Derived.Laws.ResultCell
import Derived.Deep.QuietTactic
import Derived.BigQuiet
import Derived.RegionTactic
import Derived.BigRegion
import Derived.LoopTactic
import Derived.LoopN
import Derived.Test.YtaajkbclojmbeaaGreatDoorSh
import Derived.Shelf.Strings.Repeat
import Derived.Lib.Hide
import Derived.Laws.BytesArg
import Derived.Lib.ConvBytes
import Derived.Lib.AppendStr
import Derived.Laws.AppendOwnNone
import Derived.Laws.OwnMore
import Derived.Laws.CopyRow
namespace Go.Proofs.YtaajkbclojmbeaaGreatDoor.M
open Go

/-- How long the beginning is: 'some n': n bytes; 'none': an offset. -/
def hdLen : List (Option Nat) → Nat
  | [] => 0
  | some n :: ks => n + hdLen ks
  | none :: ks => 4 + hdLen ks
def rowH (off : Nat) : List (Option Nat × List UInt8) → List UInt8
  | [] => []
  | (some _, b) :: ps => b ++ rowH off ps
  | (none, b) :: ps => le 4 off ++ rowH (off + b.length) ps
def rowL : List (Option Nat × List UInt8) → List UInt8
  | [] => []
  | (some _, _) :: ps => rowL ps
  | (none, b) :: ps => b ++ rowL ps
def rowB (ps : List (Option Nat × List UInt8)) : List UInt8 := rowH (hdLen (ps.map (·.1))) ps ++ rowL ps

/-- The offsets that stand in a row. -/
def offsT (s : List UInt8) (at_ : Nat) : List (Option Nat) → List Nat
  | [] => []
  | some n :: ks => offsT s (at_ + n) ks
  | none :: ks => led ((s.drop at_).take 4) :: offsT s (at_ + 4) ks
def hd (os : List Nat) (len : Nat) : Nat := match os with | [] => len | o :: _ => o
def chainT (last len : Nat) : List Nat → Bool
  | [] => true
  | n :: ns => decide (last ≤ n) && decide (n ≤ len) && chainT n len ns
def okRow (ks : List (Option Nat)) (s : List UInt8) : Bool :=
  decide (hdLen ks ≤ s.length) && decide (hd (offsT s 0 ks) s.length = hdLen ks) && chainT (hdLen ks) s.length (offsT s 0 ks)
def partsT (s : List UInt8) (at_ : Nat) : List (Option Nat) → List Nat → List (List UInt8)
  | [], _ => []
  | some n :: ks, os => (s.drop at_).take n :: partsT s (at_ + n) ks os
  | none :: ks, o :: os => (s.drop o).take (hd os s.length - o) :: partsT s (at_ + 4) ks os
  | none :: ks, [] => [] :: partsT s (at_ + 4) ks []
/-- The parts of a row; none, if it is none. -/
def splitB (ks : List (Option Nat)) (s : List UInt8) : Option (List (List UInt8)) := if okRow ks s = true then some (partsT s 0 ks (offsT s 0 ks)) else none

/-- As many bytes as there must be. -/
def Fit (ps : List (Option Nat × List UInt8)) : Prop := ∀ p ∈ ps, ∀ n, p.1 = some n → p.2.length = n
theorem Fit.cons {p : Option Nat × List UInt8} {ps : List (Option Nat × List UInt8)} (h : Fit (p :: ps)) : (∀ n, p.1 = some n → p.2.length = n) ∧ Fit ps := ⟨h p (by simp), fun q hq => h q (by simp [hq])⟩
theorem rowH_length : ∀ {ps : List (Option Nat × List UInt8)} (off : Nat), Fit ps → (rowH off ps).length = hdLen (ps.map (·.1))
  | [], _, _ => rfl
  | (some n, b) :: ps, off, h => by
    obtain ⟨h1, h2⟩ := h.cons
    rw [rowH, List.length_append, rowH_length off h2, List.map_cons, hdLen]
    have := h1 n rfl
    simp only at this
    omega
  | (none, b) :: ps, off, h => by
    obtain ⟨_, h2⟩ := h.cons
    rw [rowH, List.length_append, le_length, rowH_length _ h2, List.map_cons, hdLen]
def offsL (off : Nat) : List (Option Nat × List UInt8) → List Nat
  | [] => []
  | (some _, _) :: ps => offsL off ps
  | (none, b) :: ps => off :: offsL (off + b.length) ps
theorem drop_mid (A B : List UInt8) : (A ++ B).drop A.length = B := by simp
theorem offs_row : ∀ (ps : List (Option Nat × List UInt8)) (A B : List UInt8) (off : Nat), Fit ps → off + (rowL ps).length < 4294967296 → offsT (A ++ rowH off ps ++ B) A.length (ps.map (·.1)) = offsL off ps
  | [], _, _, _, _, _ => rfl
  | (some n, b) :: ps, A, B, off, h, hlt => by
    obtain ⟨h1, h2⟩ := h.cons
    have hb := h1 n rfl
    simp only at hb
    rw [List.map_cons, offsT, offsL, rowH]
    have := offs_row ps (A ++ b) B off h2 hlt
    rw [List.length_append, hb] at this
    rw [← this]
    simp
  | (none, b) :: ps, A, B, off, h, hlt => by
    obtain ⟨_, h2⟩ := h.cons
    rw [rowL, List.length_append] at hlt
    rw [List.map_cons, offsT, offsL, rowH]
    have := offs_row ps (A ++ le 4 off) B (off + b.length) h2 (by omega)
    rw [List.length_append, le_length] at this
    rw [← this]
    have e : (A ++ (le 4 off ++ rowH (off + b.length) ps) ++ B).drop A.length = le 4 off ++ (rowH (off + b.length) ps ++ B) := by simp
    rw [e, List.take_append_of_le_length (by rw [le_length]; omega), List.take_of_length_le (by rw [le_length]; omega), led_le 4 off (by omega)]
    simp
theorem hd_offs : ∀ (ps : List (Option Nat × List UInt8)) (off len : Nat), off + (rowL ps).length = len → hd (offsL off ps) len = off
  | [], off, len, h => by simp [rowL] at h; simp [offsL, hd, h]
  | (some n, b) :: ps, off, len, h => by rw [offsL]; exact hd_offs ps off len h
  | (none, b) :: ps, off, len, h => rfl
theorem chain_offs : ∀ (ps : List (Option Nat × List UInt8)) (last off len : Nat), last ≤ off → off + (rowL ps).length ≤ len → chainT last len (offsL off ps) = true
  | [], _, _, _, _, _ => rfl
  | (some n, b) :: ps, last, off, len, h, h2 => by rw [offsL]; exact chain_offs ps last off len h h2
  | (none, b) :: ps, last, off, len, h, h2 => by
    rw [rowL, List.length_append] at h2
    rw [offsL, chainT, chain_offs ps off (off + b.length) len (by omega) (by omega)]
    simp
    omega
theorem parts_row : ∀ (ps : List (Option Nat × List UInt8)) (A B s : List UInt8) (off : Nat), Fit ps → s = A ++ rowH off ps ++ B → s.drop off = rowL ps → off + (rowL ps).length = s.length → partsT s A.length (ps.map (·.1)) (offsL off ps) = ps.map (·.2)
  | [], _, _, _, _, _, _, _, _ => rfl
  | (some n, b) :: ps, A, B, s, off, h, hs, hd_, hl => by
    obtain ⟨h1, h2⟩ := h.cons
    have hb := h1 n rfl
    simp only at hb
    rw [List.map_cons, List.map_cons, offsL, partsT]
    have := parts_row ps (A ++ b) B s off h2 (by rw [hs, rowH]; simp) hd_ hl
    rw [List.length_append, hb] at this
    rw [this]
    congr 1
    have e : s.drop A.length = b ++ (rowH off ps ++ B) := by rw [hs, rowH]; simp
    rw [e, List.take_append_of_le_length (by omega), List.take_of_length_le (by omega)]
  | (none, b) :: ps, A, B, s, off, h, hs, hd_, hl => by
    obtain ⟨_, h2⟩ := h.cons
    rw [rowL] at hd_ hl
    rw [List.length_append] at hl
    rw [List.map_cons, List.map_cons, offsL, partsT, hd_offs ps (off + b.length) s.length (by omega)]
    have hd2 : s.drop (off + b.length) = rowL ps := by rw [← List.drop_drop, hd_]; simp
    have := parts_row ps (A ++ le 4 off) B s (off + b.length) h2 (by rw [hs, rowH]; simp) hd2 (by omega)
    rw [List.length_append, le_length] at this
    rw [this, hd_, show off + b.length - off = b.length by omega]
    simp
/-- The parts of a row that is one. -/
theorem split_row {ps : List (Option Nat × List UInt8)} (h : Fit ps) (hlt : (rowB ps).length < 4294967296) : splitB (ps.map (·.1)) (rowB ps) = some (ps.map (·.2)) := by
  have hH := rowH_length (hdLen (ps.map (·.1))) h
  have hl : (rowB ps).length = hdLen (ps.map (·.1)) + (rowL ps).length := by unfold rowB; rw [List.length_append, hH]
  have ho : offsT (rowB ps) 0 (ps.map (·.1)) = offsL (hdLen (ps.map (·.1))) ps := by
    have := offs_row ps [] (rowL ps) (hdLen (ps.map (·.1))) h (by omega)
    simpa [rowB] using this
  unfold splitB
  have hok : okRow (ps.map (·.1)) (rowB ps) = true := by
    unfold okRow
    rw [ho, hd_offs ps _ _ hl.symm, chain_offs ps _ _ _ (Nat.le_refl _) (by omega)]
    simp
    omega
  rw [if_pos hok, ho]
  congr 1
  exact parts_row ps [] (rowL ps) (rowB ps) (hdLen (ps.map (·.1))) h (by simp [rowB]) (by unfold rowB; exact (congrArg (fun q => List.drop q _) hH.symm).trans (drop_mid _ _)) hl.symm

theorem chain_hd : ∀ {os : List Nat} {last len : Nat}, chainT last len os = true → last ≤ len → last ≤ hd os len ∧ hd os len ≤ len
  | [], last, len, _, h => ⟨h, Nat.le_refl _⟩
  | o :: os, last, len, h, _ => by
    rw [chainT] at h
    simp at h
    exact ⟨h.1.1, h.1.2⟩
theorem parts_length : ∀ (s : List UInt8) (at_ : Nat) (ks : List (Option Nat)) (os : List Nat), (partsT s at_ ks os).length = ks.length
  | _, _, [], _ => rfl
  | s, at_, some n :: ks, os => by rw [partsT, List.length_cons, List.length_cons, parts_length]
  | s, at_, none :: ks, o :: os => by rw [partsT, List.length_cons, List.length_cons, parts_length]
  | s, at_, none :: ks, [] => by rw [partsT, List.length_cons, List.length_cons, parts_length]
/-- Of a row that is one: put together anew. -/
theorem parts_back : ∀ (s : List UInt8) (ks : List (Option Nat)) (at_ last : Nat), at_ + hdLen ks ≤ s.length → last ≤ s.length → chainT last s.length (offsT s at_ ks) = true →
    Fit (ks.zip (partsT s at_ ks (offsT s at_ ks))) ∧ rowH (hd (offsT s at_ ks) s.length) (ks.zip (partsT s at_ ks (offsT s at_ ks))) = (s.drop at_).take (hdLen ks) ∧ rowL (ks.zip (partsT s at_ ks (offsT s at_ ks))) = s.drop (hd (offsT s at_ ks) s.length)
  | s, [], at_, last, _, _, _ => ⟨fun p hp => by simp [partsT] at hp, by simp [partsT, rowH, hdLen], by simp [partsT, rowL, offsT, hd]⟩
  | s, some n :: ks, at_, last, h, hl, hc => by
    rw [hdLen] at h
    rw [offsT] at hc ⊢
    obtain ⟨h1, h2, h3⟩ := parts_back s ks (at_ + n) last (by omega) hl hc
    rw [partsT, List.zip_cons_cons]
    have hn : ((s.drop at_).take n).length = n := by simp; omega
    refine ⟨?_, ?_, ?_⟩
    · intro p hp m hm
      rcases List.mem_cons.1 hp with rfl | hp
      · cases hm; exact hn
      · exact h1 p hp m hm
    · rw [rowH, h2, hdLen, ← List.drop_drop, List.take_add]
    · rw [rowL]; exact h3
  | s, none :: ks, at_, last, h, hl, hc => by
    rw [hdLen] at h
    rw [offsT] at hc ⊢
    rw [chainT] at hc
    simp only [Bool.and_eq_true, decide_eq_true_eq] at hc
    obtain ⟨⟨hc1, hc2⟩, hc3⟩ := hc
    obtain ⟨h1, h2, h3⟩ := parts_back s ks (at_ + 4) _ (by omega) hc2 hc3
    obtain ⟨h4, h5⟩ := chain_hd hc3 hc2
    generalize hos : offsT s (at_ + 4) ks = os at *
    obtain ⟨o, ho⟩ : ∃ o, o = led ((s.drop at_).take 4) := ⟨_, rfl⟩
    rw [← ho] at hc1 hc2 h4 ⊢
    rw [partsT, List.zip_cons_cons]
    have h4l : ((s.drop at_).take 4).length = 4 := by simp; omega
    have hbl : ((s.drop o).take (hd os s.length - o)).length = hd os s.length - o := by simp; omega
    refine ⟨?_, ?_, ?_⟩
    · intro p hp m hm
      rcases List.mem_cons.1 hp with rfl | hp
      · cases hm
      · exact h1 p hp m hm
    · rw [rowH, hbl]
      show le 4 o ++ rowH (o + (hd os s.length - o)) _ = _
      rw [show o + (hd os s.length - o) = hd os s.length by omega, h2, hdLen, List.take_add, List.drop_drop]
      congr 1
      have := le_led ((s.drop at_).take 4)
      rw [h4l, ← ho] at this
      exact this
    · rw [rowL, h3]
      show _ = s.drop o
      have e : s.drop (hd os s.length) = (s.drop o).drop (hd os s.length - o) := by rw [List.drop_drop, show o + (hd os s.length - o) = hd os s.length by omega]
      rw [e, List.take_append_drop]
theorem row_split {ks : List (Option Nat)} {s : List UInt8} {bs : List (List UInt8)} (h : splitB ks s = some bs) : bs.length = ks.length ∧ Fit (ks.zip bs) ∧ rowB (ks.zip bs) = s := by
  unfold splitB at h
  split at h
  · rename_i hok
    cases h
    unfold okRow at hok
    simp only [Bool.and_eq_true, decide_eq_true_eq] at hok
    obtain ⟨⟨h1, h2⟩, h3⟩ := hok
    obtain ⟨h4, h5, h6⟩ := parts_back s ks 0 (hdLen ks) (by omega) h1 h3
    refine ⟨parts_length _ _ _ _, h4, ?_⟩
    unfold rowB
    rw [List.map_fst_zip (by rw [parts_length]; exact Nat.le_refl _)]
    rw [h2] at h5 h6
    rw [h5, h6]
    simp
  · cases h
end Go.Proofs.YtaajkbclojmbeaaGreatDoor.M
namespace Go.Proofs.YtaajkbclojmbeaaGreatDoor.M

/-- How many digits of S bits a number has, one at least. -/
def nd (S : Nat) : Nat → Nat → Nat
  | 0, _ => 1
  | f + 1, N => if N < 2 ^ S then 1 else nd S f (N / 2 ^ S) + 1

theorem nd_pos (S f N : Nat) : 1 ≤ nd S f N := by
  cases f with
  | zero => exact Nat.le_refl _
  | succ f => unfold nd; split <;> omega
theorem nd_le (S f N : Nat) : nd S f N ≤ f + 1 := by
  induction f generalizing N with
  | zero => exact Nat.le_refl _
  | succ f ih =>
    unfold nd
    split
    · omega
    · have := ih (N / 2 ^ S)
      omega
theorem nd_low (S f N i : Nat) (h1 : 1 ≤ i) (h2 : i < nd S f N) : N / 2 ^ (S * i) ≠ 0 := by
  induction f generalizing N i with
  | zero => simp [nd] at h2; omega
  | succ f ih =>
    unfold nd at h2
    split at h2
    · omega
    · rename_i hN
      obtain ⟨i, rfl⟩ : ∃ k, i = k + 1 := ⟨i - 1, by omega⟩
      rw [Nat.mul_succ, Nat.add_comm, Nat.pow_add, ← Nat.div_div_eq_div_mul]
      by_cases hi : i = 0
      · subst hi
        rw [Nat.mul_zero, Nat.pow_zero, Nat.div_one]
        have := Nat.div_pos (Nat.not_lt.1 hN) (Nat.two_pow_pos S)
        omega
      · exact ih _ _ (by omega) (by omega)
theorem nd_high (S f N : Nat) (h : N < 2 ^ (S * (f + 1))) : N / 2 ^ (S * nd S f N) = 0 := by
  induction f generalizing N with
  | zero =>
    simp only [nd]
    exact Nat.div_eq_of_lt (by simpa using h)
  | succ f ih =>
    unfold nd
    split
    · rename_i hN
      rw [Nat.mul_one]
      exact Nat.div_eq_of_lt hN
    · rw [Nat.mul_succ, Nat.add_comm, Nat.pow_add, ← Nat.div_div_eq_div_mul]
      refine ih _ ?_
      rw [Nat.mul_succ, Nat.add_comm, Nat.pow_add] at h
      exact Nat.div_lt_of_lt_mul h

def nd8 (N : Nat) : Nat := nd 8 7 N
theorem nd8_high {N : Nat} (h : N < 18446744073709551616) : N / 2 ^ (8 * nd8 N) = 0 := nd_high 8 7 N h
theorem nd8_width {N k : Nat} (hk : 1 ≤ k) (h : N < 256 ^ k) : nd8 N ≤ k := by
  rcases Nat.lt_or_ge k (nd8 N) with hlt | hge
  · exfalso
    refine nd_low 8 7 N k hk hlt (Nat.div_eq_of_lt ?_)
    rw [Nat.pow_mul]
    exact h
  · exact hge

/-- A number has so few bytes just where it is so small. -/
theorem tr_width {N k : Nat} (hN : In N) : (tr (f32 N)).length ≤ k ↔ N < 256 ^ k := by
  have e := dg_tr (f32 N)
  rw [dg_f32 hN] at e
  constructor
  · intro hl
    rw [← e]
    exact Nat.lt_of_lt_of_le (dg_lt _) (Nat.pow_le_pow_right (by omega) hl)
  · intro h
    rcases Nat.lt_or_ge k (tr (f32 N)).length with hl | hl
    · exfalso
      match ht : tr (f32 N) with
      | [] => rw [ht] at hl; simp at hl
      | c :: r =>
        have hc := tr_head _ c r ht
        rw [ht] at e hl
        have e2 : dg (c :: r) = dgA (0 * 256 + c.toNat) r := rfl
        rw [e2, dgA_eq] at e
        have hc1 : 1 ≤ c.toNat := by
          rcases Nat.eq_zero_or_pos c.toNat with h0 | h0
          · exact absurd (UInt8.toNat.inj (by simpa using h0)) hc
          · exact h0
        have hp : 256 ^ k ≤ 256 ^ r.length := Nat.pow_le_pow_right (by omega) (by simp at hl; omega)
        have : 1 * 256 ^ r.length ≤ (0 * 256 + c.toNat) * 256 ^ r.length := Nat.mul_le_mul_right _ (by omega)
        omega
    · exact hl

end Go.Proofs.YtaajkbclojmbeaaGreatDoor.M
namespace Go.Proofs.YtaajkbclojmbeaaGreatDoor.M
open Go

/-- How many bytes, if that is told by the type. -/
def kindOf (t : Ty) : Option Nat := if fixT t = true then some (szT t) else none
mutual
def putV (t : Ty) : Va → List UInt8
  | .mk num bits items pick =>
    if t.k = 1 then le t.n.toNat num
    else if t.k = 2 then le 1 num
    else if t.k = 5 then packB bits
    else if t.k = 6 then listB bits
    else if t.k = 8 then UInt8.ofNat pick.toNat :: (putVs t.k t.ins pick 0 items).flatMap (·.2)
    else rowB (putVs t.k t.ins pick 0 items)
def putVs (k : Int) (ins : List Ty) (pick : Int) (i : Nat) : List Va → List (Option Nat × List UInt8)
  | [] => []
  | v :: vs => (kindOf (inT k ins pick i), putV (inT k ins pick i) v) :: putVs k ins pick (i + 1) vs
end
/-- Put: the bytes, and the error. -/
def putT (t : Ty) (v : Va) : List UInt8 × Nat := if fitsV t v ≠ 0 then ([], fitsV t v) else if 65536 < (putV t v).length then ([], 5) else (putV t v, 0)

abbrev noV : Va := .mk 0 [] [] 0
abbrev Rdr := List UInt8 → Va × Nat
def readAll : List Rdr → List (List UInt8) → List Va × Nat
  | f :: fs, b :: bs => if (f b).2 ≠ 0 then ([], (f b).2) else if (readAll fs bs).2 ≠ 0 then ([], (readAll fs bs).2) else ((f b).1 :: (readAll fs bs).1, 0)
  | _, _ => ([], 0)
/-- How many items a row has, and what is wrong. -/
def manyT (k n : Int) (kd : List (Option Nat)) (s : List UInt8) : Nat × Nat :=
  if k = 7 then (kd.length, 0)
  else if k = 3 then (n.toNat, 0)
  else if s = [] then (0, 0)
  else match kd.headD none with
    | some z => if s.length % z ≠ 0 then (0, 2) else if n < ((s.length / z : Nat) : Int) then (0, 5) else (s.length / z, 0)
    | none => if s.length < 4 ∨ led (s.take 4) % 4 ≠ 0 ∨ led (s.take 4) = 0 then (0, 2) else if n < ((led (s.take 4) / 4 : Nat) : Int) then (0, 5) else (led (s.take 4) / 4, 0)
def noR : Rdr := fun _ => (noV, 2)
def rowOf (k n : Int) (kd : List (Option Nat)) (fs : List Rdr) (s : List UInt8) : Va × Nat :=
  if (manyT k n kd s).2 ≠ 0 then (noV, (manyT k n kd s).2)
  else match splitB (if k = 7 then kd else List.replicate (manyT k n kd s).1 (kd.headD none)) s with
    | none => (noV, 2)
    | some bs => if (readAll (if k = 7 then fs else List.replicate (manyT k n kd s).1 (fs.headD noR)) bs).2 ≠ 0 then (noV, (readAll (if k = 7 then fs else List.replicate (manyT k n kd s).1 (fs.headD noR)) bs).2)
      else (.mk 0 [] (readAll (if k = 7 then fs else List.replicate (manyT k n kd s).1 (fs.headD noR)) bs).1 0, 0)
/-- Is a bit behind so many set? -/
def spareB (s : List UInt8) (n : Int) : Bool := (List.range (8 * s.length)).any fun i => decide (n ≤ (i : Int)) && bitAt s i
/-- Other than so many bytes? -/
def mism (kt : Option Nat) (l : Nat) : Bool := match kt with | some z => l != z | none => false
def getOf (k n : Int) (kd : List (Option Nat)) (fs : List Rdr) (kt : Option Nat) (s : List UInt8) : Va × Nat :=
  if mism kt s.length = true then (noV, 2)
  else if k = 1 then (.mk (led s) [] [] 0, 0)
  else if k = 2 then (if 1 < led s then (noV, 2) else (.mk (led s) [] [] 0, 0))
  else if k = 5 then (if spareB s n = true then (noV, 8) else (.mk 0 (unpackB s n.toNat) [] 0, 0))
  else if k = 6 then (match topB s (8 * s.length) with
    | none => (noV, 2)
    | some m => if m < 8 * (s.length - 1) then (noV, 2) else if n < (m : Int) then (noV, 5) else (.mk 0 (unpackB s m) [] 0, 0))
  else if k = 8 then (match s with
    | [] => (noV, 2)
    | c :: s' => if fs.length ≤ c.toNat then (noV, 9) else if (fs.getD c.toNat noR s').2 ≠ 0 then (noV, (fs.getD c.toNat noR s').2) else (.mk 0 [] [(fs.getD c.toNat noR s').1] c.toNat, 0))
  else rowOf k n kd fs s
mutual
def getV : Ty → Rdr
  | .mk k n ins => fun s => getOf k n (ins.map kindOf) (getFs ins) (kindOf (.mk k n ins)) s
def getFs : List Ty → List Rdr
  | [] => []
  | t :: ts => getV t :: getFs ts
end
theorem getFs_map : ∀ ts : List Ty, getFs ts = ts.map getV
  | [] => rfl
  | t :: ts => by rw [getFs, getFs_map ts, List.map_cons]
mutual
def inV : Va → Prop
  | .mk num _ items _ => In num ∧ inVs items
def inVs : List Va → Prop
  | [] => True
  | v :: vs => inV v ∧ inVs vs
end

/-- Types and values, one by one. -/
inductive Alls (R : Ty → Va → Prop) : List Ty → List Va → Prop
  | nil : Alls R [] []
  | cons {t : Ty} {v : Va} {ts : List Ty} {vs : List Va} (h : R t v) (r : Alls R ts vs) : Alls R (t :: ts) (v :: vs)
theorem Alls.length {R : Ty → Va → Prop} {ts : List Ty} {vs : List Va} (h : Alls R ts vs) : ts.length = vs.length := by
  induction h with
  | nil => rfl
  | cons _ _ ih => simp [ih]
theorem Alls.imp {R S : Ty → Va → Prop} {ts : List Ty} {vs : List Va} (h : Alls R ts vs) (hi : ∀ t v, t ∈ ts → v ∈ vs → R t v → S t v) : Alls S ts vs := by
  induction h with
  | nil => exact .nil
  | cons h _ ih => exact .cons (hi _ _ (by simp) (by simp) h) (ih fun t v ht hv => hi t v (by simp [ht]) (by simp [hv]))
def putL : List Ty → List Va → List (Option Nat × List UInt8)
  | t :: ts, v :: vs => (kindOf t, putV t v) :: putL ts vs
  | _, _ => []
theorem inT_other {k : Int} (hk : k ≠ 7) (ins : List Ty) (pick : Int) (i : Nat) : inT k ins pick i = inT k ins pick 0 := by unfold inT; rw [if_neg hk, if_neg hk]
theorem putVs_other {k : Int} (hk : k ≠ 7) (ins : List Ty) (pick : Int) : ∀ (vs : List Va) (i : Nat), putVs k ins pick i vs = putL (List.replicate vs.length (inT k ins pick 0)) vs
  | [], _ => by rw [putVs]; rfl
  | v :: vs, i => by rw [putVs, inT_other hk, putVs_other hk ins pick vs (i + 1), List.length_cons, List.replicate_succ, putL]
theorem inT_seven (ins : List Ty) (pick : Int) {i : Nat} {t : Ty} {ts : List Ty} (h : ins.drop i = t :: ts) : inT 7 ins pick i = t ∧ ins.drop (i + 1) = ts := by
  have h0 : ins[i]? = some t := by rw [← List.head?_drop, h]; rfl
  refine ⟨by unfold inT; rw [if_pos rfl, h0]; rfl, ?_⟩
  rw [← List.drop_drop, h]
  rfl
theorem putVs_seven (ins : List Ty) (pick : Int) : ∀ (vs : List Va) (i : Nat), i + vs.length ≤ ins.length → putVs 7 ins pick i vs = putL (ins.drop i) vs
  | [], i, _ => by rw [putVs]; cases ins.drop i <;> rfl
  | v :: vs, i, h => by
    rw [List.length_cons] at h
    obtain ⟨t, ts, hd⟩ : ∃ t ts, ins.drop i = t :: ts := by
      cases hd : ins.drop i with
      | nil =>
        have := congrArg List.length hd
        simp at this
        omega
      | cons t ts => exact ⟨t, ts, rfl⟩
    obtain ⟨h1, h2⟩ := inT_seven ins pick hd
    rw [putVs, h1, putVs_seven ins pick vs (i + 1) (by omega), h2, hd, putL]
abbrev FitR (t : Ty) (v : Va) : Prop := fitV t v = 0
theorem fitVs_other {k : Int} (hk : k ≠ 7) (ins : List Ty) (pick : Int) : ∀ (vs : List Va) (i : Nat), fitVs k ins pick i vs = 0 ↔ Alls FitR (List.replicate vs.length (inT k ins pick 0)) vs
  | [], _ => by rw [fitVs]; exact ⟨fun _ => .nil, fun _ => rfl⟩
  | v :: vs, i => by
    rw [fitVs, inT_other hk, List.length_cons, List.replicate_succ]
    by_cases h : fitV (inT k ins pick 0) v = 0
    · rw [if_neg (by simp [h]), fitVs_other hk ins pick vs (i + 1)]
      exact ⟨fun r => .cons h r, fun r => by cases r; assumption⟩
    · rw [if_pos h]
      exact ⟨fun r => absurd r h, fun r => by cases r with | cons h' _ => exact absurd h' h⟩
theorem fitVs_seven (ins : List Ty) (pick : Int) : ∀ (vs : List Va) (i : Nat), i + vs.length = ins.length → (fitVs 7 ins pick i vs = 0 ↔ Alls FitR (ins.drop i) vs)
  | [], i, h => by
    rw [fitVs, List.drop_eq_nil_of_le (by simp at h; omega)]
    exact ⟨fun _ => .nil, fun _ => rfl⟩
  | v :: vs, i, h => by
    rw [List.length_cons] at h
    obtain ⟨t, ts, hd⟩ : ∃ t ts, ins.drop i = t :: ts := by
      cases hd : ins.drop i with
      | nil =>
        have := congrArg List.length hd
        simp at this
        omega
      | cons t ts => exact ⟨t, ts, rfl⟩
    obtain ⟨h1, h2⟩ := inT_seven ins pick hd
    rw [fitVs, h1, hd]
    have ih := fitVs_seven ins pick vs (i + 1) (by omega)
    rw [h2] at ih
    by_cases h : fitV t v = 0
    · rw [if_neg (by simp [h]), ih]
      exact ⟨fun r => .cons h r, fun r => by cases r; assumption⟩
    · rw [if_pos h]
      exact ⟨fun r => absurd r h, fun r => by cases r with | cons h' _ => exact absurd h' h⟩

theorem putL_fst {R : Ty → Va → Prop} {ts : List Ty} {vs : List Va} (h : Alls R ts vs) : (putL ts vs).map (·.1) = ts.map kindOf := by
  induction h with
  | nil => rfl
  | cons _ _ ih => rw [putL, List.map_cons, List.map_cons, ih]
theorem putL_zip {R : Ty → Va → Prop} {ts : List Ty} {vs : List Va} (h : Alls R ts vs) : (ts.map kindOf).zip ((putL ts vs).map (·.2)) = putL ts vs := by
  induction h with
  | nil => rfl
  | cons _ _ ih => rw [putL, List.map_cons, List.map_cons, List.zip_cons_cons, ih]
theorem readAll_put {ts : List Ty} {vs : List Va} (h : Alls (fun t v => getV t (putV t v) = (v, 0)) ts vs) : readAll (ts.map getV) ((putL ts vs).map (·.2)) = (vs, 0) := by
  induction h with
  | nil => rfl
  | cons h _ ih => rw [putL, List.map_cons, List.map_cons, readAll, h, ih]; simp
theorem readAll_back : ∀ (ts : List Ty) (bs : List (List UInt8)) (vs : List Va), bs.length = ts.length → readAll (ts.map getV) bs = (vs, 0) → (∀ t ∈ ts, ∀ b ∈ bs, ∀ v, getV t b = (v, 0) → fitV t v = 0 ∧ inV v ∧ putV t v = b) →
    Alls FitR ts vs ∧ inVs vs ∧ (putL ts vs).map (·.2) = bs
  | [], bs, vs, hl, h, _ => by
    cases bs with
    | nil => simp [readAll] at h; subst h; exact ⟨.nil, trivial, rfl⟩
    | cons b bs => simp at hl
  | t :: ts, [], vs, hl, h, _ => by simp at hl
  | t :: ts, b :: bs, vs, hl, h, hr => by
    rw [List.map_cons, readAll] at h
    by_cases h1 : (getV t b).2 = 0
    · rw [if_neg (by simp [h1])] at h
      by_cases h2 : (readAll (ts.map getV) bs).2 = 0
      · rw [if_neg (by simp [h2])] at h
        cases h
        obtain ⟨g1, g2, g3⟩ := hr t (by simp) b (by simp) (getV t b).1 (by rw [← h1])
        obtain ⟨k1, k2, k3⟩ := readAll_back ts bs _ (by simpa using hl) (by rw [← h2]) fun u hu c hc v hv => hr u (by simp [hu]) c (by simp [hc]) v hv
        exact ⟨.cons g1 k1, ⟨g2, k2⟩, by rw [putL, List.map_cons, k3, g3]⟩
      · rw [if_pos h2] at h
        exact absurd (congrArg Prod.snd h) h2
    · rw [if_pos h1] at h
      exact absurd (congrArg Prod.snd h) h1
theorem inVs_mem : ∀ {vs : List Va} {v : Va}, inVs vs → v ∈ vs → inV v
  | w :: vs, v, h, hm => by
    rcases List.mem_cons.1 hm with rfl | hm
    · exact h.1
    · exact inVs_mem h.2 hm
end Go.Proofs.YtaajkbclojmbeaaGreatDoor.M
namespace Go.Proofs.YtaajkbclojmbeaaGreatDoor.M
open Go

structure Good (t : Ty) : Prop where
  size : fixT t = true → ∀ v, fitV t v = 0 → inV v → (putV t v).length = szT t
  put : ∀ v, fitV t v = 0 → inV v → (putV t v).length < 4294967296 → getV t (putV t v) = (v, 0)
  get : ∀ s v, getV t s = (v, 0) → fitV t v = 0 ∧ inV v ∧ putV t v = s
  pos : fixT t = true → 1 ≤ szT t

theorem kind_some {t : Ty} {n : Nat} (h : kindOf t = some n) : fixT t = true ∧ szT t = n := by
  unfold kindOf at h
  split at h
  · rename_i hf; cases h; exact ⟨hf, rfl⟩
  · cases h
theorem putL_fit {ts : List Ty} {vs : List Va} (h : Alls FitR ts vs) (hi : inVs vs) (hg : ∀ t ∈ ts, Good t) : Fit (putL ts vs) := by
  induction h with
  | nil => intro p hp; simp [putL] at hp
  | cons h _ ih =>
    intro p hp n hn
    rw [putL, List.mem_cons] at hp
    rcases hp with rfl | hp
    · obtain ⟨h1, h2⟩ := kind_some hn
      rw [← h2]
      exact (hg _ (by simp)).size h1 _ h hi.1
    · exact ih hi.2 (fun t ht => hg t (by simp [ht])) p hp n hn
theorem rowH_le : ∀ {ps : List (Option Nat × List UInt8)} (off : Nat) {p : Option Nat × List UInt8}, p ∈ ps → p.2.length ≤ (rowH off ps).length + (rowL ps).length
  | (some n, b) :: ps, off, p, h => by
    rw [rowH, rowL, List.length_append]
    rcases List.mem_cons.1 h with rfl | h
    · show b.length ≤ _; omega
    · have := rowH_le off h; omega
  | (none, b) :: ps, off, p, h => by
    rw [rowH, rowL, List.length_append, List.length_append]
    rcases List.mem_cons.1 h with rfl | h
    · show b.length ≤ _; omega
    · have := rowH_le (off + b.length) h; omega
theorem part_le {ps : List (Option Nat × List UInt8)} {p : Option Nat × List UInt8} (h : p ∈ ps) : p.2.length ≤ (rowB ps).length := by
  unfold rowB
  rw [List.length_append]
  exact rowH_le _ h
theorem putL_mem {R : Ty → Va → Prop} {ts : List Ty} {vs : List Va} (h : Alls R ts vs) : Alls (fun t v => (kindOf t, putV t v) ∈ putL ts vs) ts vs := by
  induction h with
  | nil => exact .nil
  | cons _ _ ih => exact .cons (by simp [putL]) (ih.imp fun t v _ _ hm => by rw [putL]; exact List.mem_cons_of_mem _ hm)
theorem Alls.and {R S : Ty → Va → Prop} {ts : List Ty} {vs : List Va} (h : Alls R ts vs) (h2 : Alls S ts vs) : Alls (fun t v => R t v ∧ S t v) ts vs := by
  induction h with
  | nil => exact .nil
  | cons h _ ih => cases h2 with | cons h' r' => exact .cons ⟨h, h'⟩ (ih r')
/-- A row that is put is got. -/
theorem row_put {ts : List Ty} {vs : List Va} (h : Alls FitR ts vs) (hi : inVs vs) (hg : ∀ t ∈ ts, Good t) (hl : (rowB (putL ts vs)).length < 4294967296) :
    splitB (ts.map kindOf) (rowB (putL ts vs)) = some ((putL ts vs).map (·.2)) ∧ readAll (ts.map getV) ((putL ts vs).map (·.2)) = (vs, 0) := by
  refine ⟨?_, readAll_put ?_⟩
  · have := split_row (putL_fit h hi hg) hl
    rwa [putL_fst h] at this
  · exact (h.and (putL_mem h)).imp fun t v ht hv hr => (hg t ht).put v hr.1 (inVs_mem hi hv) (Nat.lt_of_le_of_lt (part_le hr.2) hl)
/-- A row that is got is put just so. -/
theorem row_get {ts : List Ty} {vs : List Va} {s : List UInt8} {bs : List (List UInt8)} (h : splitB (ts.map kindOf) s = some bs) (hr : readAll (ts.map getV) bs = (vs, 0)) (hg : ∀ t ∈ ts, Good t) : Alls FitR ts vs ∧ inVs vs ∧ rowB (putL ts vs) = s := by
  obtain ⟨h1, h2, h3⟩ := row_split h
  obtain ⟨k1, k2, k3⟩ := readAll_back ts bs vs (by rw [h1, List.length_map]) hr fun t ht b _ v hv => (hg t ht).get b v hv
  refine ⟨k1, k2, ?_⟩
  rw [← k3, putL_zip k1] at h3
  exact h3
/-- A row of what is fixed. -/
theorem rowL_fixed : ∀ {ps : List (Option Nat × List UInt8)}, (∀ p ∈ ps, p.1 ≠ none) → rowL ps = []
  | [], _ => rfl
  | (some _, _) :: ps, h => by rw [rowL]; exact rowL_fixed fun p hp => h p (by simp [hp])
  | (none, b) :: ps, h => absurd rfl (h (none, b) (by simp))
theorem row_length {ps : List (Option Nat × List UInt8)} (h : Fit ps) (hf : ∀ p ∈ ps, p.1 ≠ none) : (rowB ps).length = hdLen (ps.map (·.1)) := by
  unfold rowB
  rw [List.length_append, rowH_length _ h, rowL_fixed hf]
  rfl
theorem hdLen_fixed : ∀ {ts : List Ty}, fixTs ts = true → hdLen (ts.map kindOf) = szTs ts
  | [], _ => rfl
  | t :: ts, h => by
    have h' := fixTs_ok.1 h
    rw [List.map_cons, kindOf, if_pos (h' t (by simp)), hdLen, szTs, hdLen_fixed (fixTs_ok.2 fun u hu => h' u (by simp [hu]))]
theorem hdLen_replicate (m : Nat) (z : Nat) : hdLen (List.replicate m (some z)) = m * z := by
  induction m with
  | zero => simp [hdLen]
  | succ m ih => rw [List.replicate_succ, hdLen, ih, Nat.succ_mul, Nat.add_comm]
theorem hdLen_offsets (m : Nat) : hdLen (List.replicate m none) = 4 * m := by
  induction m with
  | zero => rfl
  | succ m ih => rw [List.replicate_succ, hdLen, ih]; omega
theorem putL_kinds {R : Ty → Va → Prop} {ts : List Ty} {vs : List Va} (h : Alls R ts vs) (hf : fixTs ts = true) : ∀ p ∈ putL ts vs, p.1 ≠ none := by
  induction h with
  | nil => intro p hp; simp [putL] at hp
  | cons _ _ ih =>
    intro p hp
    have h' := fixTs_ok.1 hf
    rw [putL, List.mem_cons] at hp
    rcases hp with rfl | hp
    · show kindOf _ ≠ none
      unfold kindOf
      rw [if_pos (h' _ (by simp))]
      simp
    · exact ih (fixTs_ok.2 fun u hu => h' u (by simp [hu])) p hp
theorem fixTs_replicate {t : Ty} (h : fixT t = true) (m : Nat) : fixTs (List.replicate m t) = true := fixTs_ok.2 fun u hu => by rw [(List.mem_replicate.1 hu).2]; exact h

theorem fit_parts0 {k n : Int} {ins : List Ty} {num : Nat} {bits : List Bool} {items : List Va} {pick : Int} (h : fitV (.mk k n ins) (.mk num bits items pick) = 0) :
    ¬ ((k = 4 ∧ n < items.length) ∨ (k = 6 ∧ n < bits.length)) ∧ ofV k n ins.length (.mk num bits items pick) = true ∧ fitVs k ins pick 0 items = 0 := by
  rw [fitV_eq] at h
  split at h
  · cases h
  · rename_i h1
    split at h
    · cases h
    · rename_i h2
      exact ⟨h1, by simpa using h2, h⟩
theorem fit_mk {k n : Int} {ins : List Ty} {num : Nat} {bits : List Bool} {items : List Va} {pick : Int} (h1 : ¬ ((k = 4 ∧ n < items.length) ∨ (k = 6 ∧ n < bits.length))) (h2 : ofV k n ins.length (.mk num bits items pick) = true) (h3 : fitVs k ins pick 0 items = 0) :
    fitV (.mk k n ins) (.mk num bits items pick) = 0 := by
  rw [fitV_eq, if_neg h1, if_neg (by rw [h2]; simp), h3]
theorem ofV_1 {n : Int} {m num : Nat} {bits : List Bool} {items : List Va} {pick : Int} : ofV 1 n m (.mk num bits items pick) = (bits.length == 0 && items.length == 0 && pick == 0 && decide (((tr (f32 num)).length : Int) ≤ n)) := rfl
theorem ofV_2 {n : Int} {m num : Nat} {bits : List Bool} {items : List Va} {pick : Int} : ofV 2 n m (.mk num bits items pick) = (bits.length == 0 && items.length == 0 && pick == 0 && (num == 0 || num == 1)) := rfl
theorem ofV_3 {n : Int} {m num : Nat} {bits : List Bool} {items : List Va} {pick : Int} : ofV 3 n m (.mk num bits items pick) = (num == 0 && bits.length == 0 && pick == 0 && decide ((items.length : Int) = n)) := rfl
theorem ofV_4 {n : Int} {m num : Nat} {bits : List Bool} {items : List Va} {pick : Int} : ofV 4 n m (.mk num bits items pick) = (num == 0 && bits.length == 0 && pick == 0) := rfl
theorem ofV_5 {n : Int} {m num : Nat} {bits : List Bool} {items : List Va} {pick : Int} : ofV 5 n m (.mk num bits items pick) = (num == 0 && items.length == 0 && pick == 0 && decide ((bits.length : Int) = n)) := rfl
theorem ofV_6 {n : Int} {m num : Nat} {bits : List Bool} {items : List Va} {pick : Int} : ofV 6 n m (.mk num bits items pick) = (num == 0 && items.length == 0 && pick == 0) := rfl
theorem ofV_7 {n : Int} {m num : Nat} {bits : List Bool} {items : List Va} {pick : Int} : ofV 7 n m (.mk num bits items pick) = (num == 0 && bits.length == 0 && pick == 0 && items.length == m) := rfl
theorem ofV_8 {n : Int} {m num : Nat} {bits : List Bool} {items : List Va} {pick : Int} : ofV 8 n m (.mk num bits items pick) = (num == 0 && bits.length == 0 && items.length == 1 && decide (0 ≤ pick) && decide (pick < m)) := rfl
theorem nil_of {α : Type} {l : List α} (h : (l.length == 0) = true) : l = [] := List.eq_nil_of_length_eq_zero (by simpa using h)

theorem good_uint {n : Int} {ins : List Ty} (hf : formT 1 n ins.length = true) : Good (.mk 1 n ins) := by
  unfold formT at hf
  rw [if_pos rfl] at hf
  simp only [Bool.and_eq_true] at hf
  have hi := nil_of hf.1
  have hn : 1 ≤ n ∧ n ≤ 32 := by
    have := hf.2
    simp at this
    rcases this with (((h | h) | h) | h) | h <;> omega
  obtain ⟨m, rfl⟩ := Int.eq_ofNat_of_zero_le (show 0 ≤ n by omega)
  subst hi
  have hfx : fixT (.mk 1 (m : Int) []) = true := by rw [fixT]; simp [fixTs]
  have hsz : szT (.mk 1 (m : Int) []) = m := by rw [szT]; simp
  have hk : kindOf (.mk 1 (m : Int) []) = some m := by unfold kindOf; rw [if_pos hfx, hsz]
  have hput : ∀ num bits items pick, putV (.mk 1 (m : Int) []) (.mk num bits items pick) = le m num := fun num bits items pick => by rw [putV]; simp [Ty.k, Ty.n]
  have hget : ∀ s, getV (.mk 1 (m : Int) []) s = if s.length != m then (noV, 2) else (.mk (led s) [] [] 0, 0) := fun s => by rw [getV]; show getOf _ _ _ _ _ _ = _; unfold getOf; rw [hk]; simp [mism]
  refine ⟨fun _ v _ _ => ?_, fun v hv hin _ => ?_, fun s v h => ?_, fun _ => by rw [hsz]; omega⟩
  · obtain ⟨num, bits, items, pick⟩ := v
    rw [hput, le_length, hsz]
  · obtain ⟨num, bits, items, pick⟩ := v
    obtain ⟨_, h2, _⟩ := fit_parts0 hv
    rw [ofV_1] at h2
    simp at h2
    obtain ⟨⟨⟨rfl, rfl⟩, rfl⟩, hlen⟩ := h2
    have hlt := (tr_width hin.1).1 hlen
    rw [hput, hget, le_length, led_le _ _ hlt]
    simp
  · rw [hget] at h
    split at h
    · cases h
    · rename_i hl
      have hl : s.length = m := by simpa using hl
      cases h
      have hlt : led s < 256 ^ m := hl ▸ led_lt s
      have hIn : In (led s) := by
        unfold In
        exact Nat.lt_of_lt_of_le hlt (show 256 ^ m ≤ 256 ^ 32 from Nat.pow_le_pow_right (by omega) (by omega))
      refine ⟨fit_mk (by simp) ?_ (by rw [fitVs]), ⟨hIn, trivial⟩, ?_⟩
      · rw [ofV_1]
        have := (tr_width hIn).2 hlt
        simp
        omega
      · rw [hput, ← hl, le_led]
theorem good_bool {n : Int} {ins : List Ty} (hf : formT 2 n ins.length = true) : Good (.mk 2 n ins) := by
  unfold formT at hf
  rw [if_neg (by decide), if_pos rfl] at hf
  simp only [Bool.and_eq_true] at hf
  have hi := nil_of hf.1
  subst hi
  have hfx : fixT (.mk 2 n []) = true := by rw [fixT]; simp [fixTs]
  have hsz : szT (.mk 2 n []) = 1 := by rw [szT]; simp
  have hk : kindOf (.mk 2 n []) = some 1 := by unfold kindOf; rw [if_pos hfx, hsz]
  have hput : ∀ num bits items pick, putV (.mk 2 n []) (.mk num bits items pick) = le 1 num := fun num bits items pick => by rw [putV]; simp [Ty.k]
  have hget : ∀ s, getV (.mk 2 n []) s = if s.length != 1 then (noV, 2) else if 1 < led s then (noV, 2) else (.mk (led s) [] [] 0, 0) := fun s => by rw [getV]; show getOf _ _ _ _ _ _ = _; unfold getOf; rw [hk]; simp [mism]
  refine ⟨fun _ v _ _ => ?_, fun v hv hin _ => ?_, fun s v h => ?_, fun _ => by rw [hsz]; omega⟩
  · obtain ⟨num, bits, items, pick⟩ := v
    rw [hput, le_length, hsz]
  · obtain ⟨num, bits, items, pick⟩ := v
    obtain ⟨_, h2, _⟩ := fit_parts0 hv
    rw [ofV_2] at h2
    simp at h2
    obtain ⟨⟨⟨rfl, rfl⟩, rfl⟩, hnum⟩ := h2
    have hlt : num < 256 ^ 1 := by omega
    rw [hput, hget, le_length, led_le _ _ hlt]
    simp
    omega
  · rw [hget] at h
    split at h
    · cases h
    · rename_i hl
      split at h
      · cases h
      · rename_i h1
        have hl : s.length = 1 := by simpa using hl
        cases h
        have hIn : In (led s) := by unfold In; omega
        refine ⟨fit_mk (by simp) ?_ (by rw [fitVs]), ⟨hIn, trivial⟩, ?_⟩
        · rw [ofV_2]
          simp
          omega
        · rw [hput, ← hl, le_led]
theorem good_bits {n : Int} {ins : List Ty} (hf : formT 5 n ins.length = true) : Good (.mk 5 n ins) := by
  unfold formT at hf
  rw [if_neg (by decide), if_neg (by decide), if_neg (by decide), if_pos (by decide)] at hf
  simp only [Bool.and_eq_true, decide_eq_true_eq] at hf
  have hi := nil_of hf.1.1
  have hn := hf.1.2
  obtain ⟨m, rfl⟩ := Int.eq_ofNat_of_zero_le (show 0 ≤ n by omega)
  subst hi
  have hfx : fixT (.mk 5 (m : Int) []) = true := by rw [fixT]; simp [fixTs]
  have hsz : szT (.mk 5 (m : Int) []) = (m + 7) / 8 := by rw [szT]; simp
  have hk : kindOf (.mk 5 (m : Int) []) = some ((m + 7) / 8) := by unfold kindOf; rw [if_pos hfx, hsz]
  have hput : ∀ num bits items pick, putV (.mk 5 (m : Int) []) (.mk num bits items pick) = packB bits := fun num bits items pick => by rw [putV]; simp [Ty.k]
  have hget : ∀ s, getV (.mk 5 (m : Int) []) s = if s.length != (m + 7) / 8 then (noV, 2) else if spareB s (m : Int) = true then (noV, 8) else (.mk 0 (unpackB s m) [] 0, 0) := fun s => by rw [getV]; show getOf _ _ _ _ _ _ = _; unfold getOf; rw [hk]; simp [mism]
  refine ⟨fun _ v hv _ => ?_, fun v hv hin _ => ?_, fun s v h => ?_, fun _ => by rw [hsz]; omega⟩
  · obtain ⟨num, bits, items, pick⟩ := v
    obtain ⟨_, h2, _⟩ := fit_parts0 hv
    rw [ofV_5] at h2
    simp at h2
    have h3 : bits.length = m := by omega
    rw [hput, pack_length, hsz, h3]
  · obtain ⟨num, bits, items, pick⟩ := v
    obtain ⟨_, h2, _⟩ := fit_parts0 hv
    rw [ofV_5] at h2
    simp at h2
    obtain ⟨⟨⟨rfl, rfl⟩, rfl⟩, hlen⟩ := h2
    replace hlen : bits.length = m := by omega
    have hsp : spareB (packB bits) (m : Int) = false := by
      unfold spareB
      rw [List.any_eq_false]
      intro i _
      simp
      intro hmi
      rw [bit_pack, List.getD_eq_getElem?_getD, List.getElem?_eq_none (by omega)]
      rfl
    rw [hput, hget, pack_length, hlen, hsp]
    simp
    rw [← hlen]
    exact unpack_pack bits
  · rw [hget] at h
    split at h
    · cases h
    · rename_i hl
      split at h
      · cases h
      · rename_i h1
        have hl : s.length = (m + 7) / 8 := by simpa using hl
        cases h
        refine ⟨fit_mk (by simp) ?_ (by rw [fitVs]), ⟨by unfold In; omega, trivial⟩, ?_⟩
        · rw [ofV_5]
          simp [unpack_length]
        · rw [hput]
          refine pack_unpack hl fun i h2 h3 => ?_
          have h4 : spareB s (m : Int) = false := by simpa using h1
          unfold spareB at h4
          rw [List.any_eq_false] at h4
          have := h4 i (List.mem_range.2 h3)
          simp at this
          exact this h2
theorem good_bitlist {n : Int} {ins : List Ty} (hf : formT 6 n ins.length = true) : Good (.mk 6 n ins) := by
  unfold formT at hf
  rw [if_neg (by decide), if_neg (by decide), if_neg (by decide), if_pos (by decide)] at hf
  simp only [Bool.and_eq_true, decide_eq_true_eq] at hf
  have hi := nil_of hf.1.1
  subst hi
  have hfx : fixT (.mk 6 n []) = false := by rw [fixT]; simp
  have hk : kindOf (.mk 6 n []) = none := by unfold kindOf; rw [if_neg (by rw [hfx]; simp)]
  have hput : ∀ num bits items pick, putV (.mk 6 n []) (.mk num bits items pick) = listB bits := fun num bits items pick => by rw [putV]; simp [Ty.k]
  have hget : ∀ s, getV (.mk 6 n []) s = match topB s (8 * s.length) with
    | none => (noV, 2)
    | some m => if m < 8 * (s.length - 1) then (noV, 2) else if n < (m : Int) then (noV, 5) else (.mk 0 (unpackB s m) [] 0, 0) := fun s => by rw [getV]; show getOf _ _ _ _ _ _ = _; unfold getOf; rw [hk]; simp [mism]; try (cases topB s (8 * s.length) <;> rfl)
  refine ⟨fun h => (by rw [hfx] at h; cases h), fun v hv hin _ => ?_, fun s v h => ?_, fun h => (by rw [hfx] at h; cases h)⟩
  · obtain ⟨num, bits, items, pick⟩ := v
    obtain ⟨h1, h2, _⟩ := fit_parts0 hv
    rw [ofV_6] at h2
    simp at h1 h2
    obtain ⟨⟨rfl, rfl⟩, rfl⟩ := h2
    rw [hput, hget, listB_top]
    have hl := listB_length bits
    simp only
    rw [if_neg (by omega), if_neg (by omega), unpack_listB]
  · rw [hget] at h
    cases ht : topB s (8 * s.length) with
    | none => rw [ht] at h; cases h
    | some m =>
      rw [ht] at h
      simp only at h
      split at h
      · cases h
      · rename_i h1
        split at h
        · cases h
        · rename_i h2
          cases h
          refine ⟨fit_mk (by simp [unpack_length]; omega) ?_ (by rw [fitVs]), ⟨by unfold In; omega, trivial⟩, ?_⟩
          · rw [ofV_6]
            simp
          · rw [hput]
            exact listB_unpack ht (by omega)
end Go.Proofs.YtaajkbclojmbeaaGreatDoor.M
namespace Go.Proofs.YtaajkbclojmbeaaGreatDoor.M
open Go

theorem rowOf_put {k n : Int} {ins ts : List Ty} {vs : List Va} (hmany : manyT k n (ins.map kindOf) (rowB (putL ts vs)) = (ts.length, 0))
    (hks : (if k = 7 then ins.map kindOf else List.replicate ts.length ((ins.map kindOf).headD none)) = ts.map kindOf) (hgs : (if k = 7 then ins.map getV else List.replicate ts.length ((ins.map getV).headD noR)) = ts.map getV)
    (h : Alls FitR ts vs) (hi : inVs vs) (hg : ∀ t ∈ ts, Good t) (hl : (rowB (putL ts vs)).length < 4294967296) : rowOf k n (ins.map kindOf) (ins.map getV) (rowB (putL ts vs)) = (.mk 0 [] vs 0, 0) := by
  obtain ⟨h1, h2⟩ := row_put h hi hg hl
  unfold rowOf
  rw [hmany]
  simp only [ne_eq, not_true_eq_false, if_false]
  rw [hks, h1]
  simp only
  rw [hgs, h2]
  simp
theorem rowOf_get {k n : Int} {kd : List (Option Nat)} {fs : List Rdr} {s : List UInt8} {v : Va} (h : rowOf k n kd fs s = (v, 0)) :
    (manyT k n kd s).2 = 0 ∧ ∃ bs vs, splitB (if k = 7 then kd else List.replicate (manyT k n kd s).1 (kd.headD none)) s = some bs ∧ readAll (if k = 7 then fs else List.replicate (manyT k n kd s).1 (fs.headD noR)) bs = (vs, 0) ∧ v = .mk 0 [] vs 0 := by
  unfold rowOf at h
  by_cases h1 : (manyT k n kd s).2 = 0
  · rw [if_neg (by simp [h1])] at h
    refine ⟨h1, ?_⟩
    cases hb : splitB (if k = 7 then kd else List.replicate (manyT k n kd s).1 (kd.headD none)) s with
    | none => rw [hb] at h; exact absurd (congrArg Prod.snd h) (by simp)
    | some bs =>
      rw [hb] at h
      simp only at h
      generalize hr : readAll (if k = 7 then fs else List.replicate (manyT k n kd s).1 (fs.headD noR)) bs = r at h
      by_cases h2 : r.2 = 0
      · rw [if_neg (by simp [h2])] at h
        exact ⟨bs, r.1, rfl, by rw [hr, ← h2], (congrArg Prod.fst h).symm⟩
      · rw [if_pos h2] at h
        exact absurd (congrArg Prod.snd h) h2
  · rw [if_pos h1] at h
    exact absurd (congrArg Prod.snd h) h1
theorem getV_row {k n : Int} {ins : List Ty} (h : k = 3 ∨ k = 4 ∨ k = 7) (s : List UInt8) : getV (.mk k n ins) s = if mism (kindOf (.mk k n ins)) s.length = true then (noV, 2) else rowOf k n (ins.map kindOf) (ins.map getV) s := by
  rw [getV, getFs_map]
  show getOf _ _ _ _ _ _ = _
  unfold getOf
  rcases h with rfl | rfl | rfl <;> simp
theorem putV_row {k n : Int} {ins : List Ty} (h : k = 3 ∨ k = 4 ∨ k = 7) (num : Nat) (bits : List Bool) (items : List Va) (pick : Int) : putV (.mk k n ins) (.mk num bits items pick) = rowB (putVs k ins pick 0 items) := by
  rw [putV]
  rcases h with rfl | rfl | rfl <;> simp [Ty.k, Ty.ins]
theorem no_mismatch {t : Ty} {s : List UInt8} (h : fixT t = true → s.length = szT t) : mism (kindOf t) s.length = false := by
  unfold kindOf mism
  by_cases hf : fixT t = true
  · rw [if_pos hf]; simp [h hf]
  · rw [if_neg hf]
theorem mismatch_no {t : Ty} {s : List UInt8} (h : ¬ mism (kindOf t) s.length = true) (hf : fixT t = true) : s.length = szT t := by
  unfold kindOf at h
  rw [if_pos hf] at h
  simpa [mism] using h
theorem getV_ok {k n : Int} {ins : List Ty} (hk : k = 3 ∨ k = 4 ∨ k = 7) {s : List UInt8} {v : Va} (h : getV (.mk k n ins) s = (v, 0)) : (fixT (.mk k n ins) = true → s.length = szT (.mk k n ins)) ∧ rowOf k n (ins.map kindOf) (ins.map getV) s = (v, 0) := by
  rw [getV_row hk] at h
  split at h
  · exact absurd (congrArg Prod.snd h) (by simp)
  · rename_i h1
    exact ⟨mismatch_no h1, h⟩
theorem replicate_kind (m : Nat) (t : Ty) : (List.replicate m t).map kindOf = List.replicate m (kindOf t) := by simp
theorem replicate_get (m : Nat) (t : Ty) : (List.replicate m t).map getV = List.replicate m (getV t) := by simp
theorem good_replicate {t : Ty} (h : Good t) (m : Nat) : ∀ u ∈ List.replicate m t, Good u := fun u hu => by rw [(List.mem_replicate.1 hu).2]; exact h
theorem in3 (t : Ty) (pick : Int) : inT 3 [t] pick 0 = t := rfl
theorem in4 (t : Ty) (pick : Int) : inT 4 [t] pick 0 = t := rfl
theorem one_of {n : Int} {ins : List Ty} {k : Int} (hk : k = 3 ∨ k = 4) (hf : formT k n ins.length = true) : ∃ t m, ins = [t] ∧ n = ((m : Nat) : Int) ∧ 1 ≤ m ∧ m ≤ 512 := by
  unfold formT at hf
  have h1 : ¬ k = 1 := by omega
  have h2 : ¬ k = 2 := by omega
  rw [if_neg h1, if_neg h2, if_pos hk] at hf
  simp only [Bool.and_eq_true, decide_eq_true_eq] at hf
  obtain ⟨m, rfl⟩ := Int.eq_ofNat_of_zero_le (show 0 ≤ n by omega)
  match ins, hf.1.1 with
  | [t], _ => exact ⟨t, m, rfl, rfl, by omega, by omega⟩

theorem good_vector {n : Int} {ins : List Ty} (hf : formT 3 n ins.length = true) (ih : ∀ t ∈ ins, Good t) : Good (.mk 3 n ins) := by
  obtain ⟨t, m, rfl, rfl, hm1, hm2⟩ := one_of (.inl rfl) hf
  have hg := ih t (by simp)
  have hfx : fixT (.mk 3 (m : Int) [t]) = fixT t := by rw [fixT]; simp [fixTs]
  have hsz : szT (.mk 3 (m : Int) [t]) = m * szT t := by rw [szT]; simp [szTs]
  have hparts : ∀ num bits items pick, fitV (.mk 3 (m : Int) [t]) (.mk num bits items pick) = 0 → num = 0 ∧ bits = [] ∧ pick = 0 ∧ items.length = m ∧ Alls FitR (List.replicate m t) items ∧ putVs 3 [t] pick 0 items = putL (List.replicate m t) items := fun num bits items pick hv => by
    obtain ⟨_, h2, h3⟩ := fit_parts0 hv
    rw [ofV_3] at h2
    simp at h2
    obtain ⟨⟨⟨rfl, rfl⟩, rfl⟩, hl⟩ := h2
    have hl : items.length = m := by omega
    rw [fitVs_other (by decide), in3, hl] at h3
    refine ⟨rfl, rfl, rfl, hl, h3, ?_⟩
    rw [putVs_other (by decide), in3, hl]
  have hsize : fixT t = true → ∀ items, Alls FitR (List.replicate m t) items → inVs items → (rowB (putL (List.replicate m t) items)).length = m * szT t := fun hft items h hi => by
    rw [row_length (putL_fit h hi (good_replicate hg m)) (putL_kinds h (fixTs_replicate hft m)), putL_fst h, replicate_kind, kindOf, if_pos hft, hdLen_replicate]
  refine ⟨fun hft v hv hin => ?_, fun v hv hin hl => ?_, fun s v h => ?_, fun hft => ?_⟩
  · obtain ⟨num, bits, items, pick⟩ := v
    obtain ⟨_, _, _, _, h4, h5⟩ := hparts num bits items pick hv
    rw [putV_row (.inl rfl), h5, hsize (hfx ▸ hft) items h4 hin.2, hsz]
  · obtain ⟨num, bits, items, pick⟩ := v
    obtain ⟨rfl, rfl, rfl, hlen, h4, h5⟩ := hparts num bits items pick hv
    rw [putV_row (.inl rfl), h5] at hl ⊢
    rw [getV_row (.inl rfl), no_mismatch (fun hft => by rw [hsize (hfx ▸ hft) items h4 hin.2, hsz])]
    simp only [Bool.false_eq_true, if_false]
    exact rowOf_put (by unfold manyT; simp) (by simp) (by simp) h4 hin.2 (good_replicate hg m) hl
  · obtain ⟨h1, h2⟩ := getV_ok (.inl rfl) h
    obtain ⟨h3, bs, vs, h4, h5, rfl⟩ := rowOf_get h2
    have hmany : manyT 3 (m : Int) ([t].map kindOf) s = (m, 0) := by unfold manyT; simp
    rw [hmany] at h4 h5
    rw [if_neg (by decide)] at h4 h5
    simp only [List.map_cons, List.map_nil, List.headD_cons] at h4 h5
    rw [← replicate_kind] at h4
    rw [← replicate_get] at h5
    obtain ⟨k1, k2, k3⟩ := row_get h4 h5 (good_replicate hg m)
    have hl : vs.length = m := by have := k1.length; simp at this; omega
    have hv : fitVs 3 [t] 0 0 vs = 0 := (fitVs_other (by decide) _ _ _ _).2 (by rw [in3, hl]; exact k1)
    refine ⟨fit_mk (by simp) (by rw [ofV_3]; simp; omega) hv, ⟨by unfold In; omega, k2⟩, ?_⟩
    rw [putV_row (.inl rfl), putVs_other (by decide), in3, hl, k3]
  · rw [hsz]
    have := hg.pos (hfx ▸ hft)
    exact Nat.mul_pos hm1 this

theorem good_container {n : Int} {ins : List Ty} (hf : formT 7 n ins.length = true) (ih : ∀ t ∈ ins, Good t) : Good (.mk 7 n ins) := by
  have hlen1 : 1 ≤ ins.length := by
    unfold formT at hf
    rw [if_neg (by decide), if_neg (by decide), if_neg (by decide), if_neg (by decide), if_pos rfl] at hf
    simp at hf
    omega
  have hfx : fixT (.mk 7 n ins) = fixTs ins := by rw [fixT]; simp
  have hsz : szT (.mk 7 n ins) = szTs ins := by rw [szT]; simp
  have hparts : ∀ num bits items pick, fitV (.mk 7 n ins) (.mk num bits items pick) = 0 → num = 0 ∧ bits = [] ∧ pick = 0 ∧ items.length = ins.length ∧ Alls FitR ins items ∧ putVs 7 ins pick 0 items = putL ins items := fun num bits items pick hv => by
    obtain ⟨_, h2, h3⟩ := fit_parts0 hv
    rw [ofV_7] at h2
    simp at h2
    obtain ⟨⟨⟨rfl, rfl⟩, rfl⟩, hl⟩ := h2
    rw [fitVs_seven ins 0 items 0 (by omega)] at h3
    have h5 := putVs_seven ins 0 items 0 (by omega)
    rw [List.drop_zero] at h3 h5
    exact ⟨rfl, rfl, rfl, hl, h3, h5⟩
  have hsize : fixTs ins = true → ∀ items, Alls FitR ins items → inVs items → (rowB (putL ins items)).length = szTs ins := fun hft items h hi => by
    rw [row_length (putL_fit h hi ih) (putL_kinds h hft), putL_fst h, hdLen_fixed hft]
  refine ⟨fun hft v hv hin => ?_, fun v hv hin hl => ?_, fun s v h => ?_, fun hft => ?_⟩
  · obtain ⟨num, bits, items, pick⟩ := v
    obtain ⟨_, _, _, _, h4, h5⟩ := hparts num bits items pick hv
    rw [putV_row (.inr (.inr rfl)), h5, hsize (hfx ▸ hft) items h4 hin.2, hsz]
  · obtain ⟨num, bits, items, pick⟩ := v
    obtain ⟨rfl, rfl, rfl, hlen, h4, h5⟩ := hparts num bits items pick hv
    rw [putV_row (.inr (.inr rfl)), h5] at hl ⊢
    rw [getV_row (.inr (.inr rfl)), no_mismatch (fun hft => by rw [hsize (hfx ▸ hft) items h4 hin.2, hsz])]
    simp only [Bool.false_eq_true, if_false]
    exact rowOf_put (by unfold manyT; simp) (by simp) (by simp) h4 hin.2 ih hl
  · obtain ⟨h1, h2⟩ := getV_ok (.inr (.inr rfl)) h
    obtain ⟨h3, bs, vs, h4, h5, rfl⟩ := rowOf_get h2
    rw [if_pos rfl] at h4 h5
    obtain ⟨k1, k2, k3⟩ := row_get h4 h5 ih
    have hl : vs.length = ins.length := k1.length.symm
    have hv : fitVs 7 ins 0 0 vs = 0 := (fitVs_seven ins 0 vs 0 (by omega)).2 (by rw [List.drop_zero]; exact k1)
    refine ⟨fit_mk (by simp) (by rw [ofV_7]; simp [hl]) hv, ⟨by unfold In; omega, k2⟩, ?_⟩
    rw [putV_row (.inr (.inr rfl)), putVs_seven ins 0 vs 0 (by omega), List.drop_zero, k3]
  · rw [hsz]
    rw [hfx] at hft
    match ins, hlen1, hft, ih with
    | t :: ts, _, hft, ih =>
      have := (ih t (by simp)).pos (fixTs_ok.1 hft t (by simp))
      rw [szTs]
      omega

theorem good_list {n : Int} {ins : List Ty} (hf : formT 4 n ins.length = true) (ih : ∀ t ∈ ins, Good t) : Good (.mk 4 n ins) := by
  obtain ⟨t, b, rfl, rfl, hm1, hm2⟩ := one_of (.inr rfl) hf
  have hg := ih t (by simp)
  have hfx : fixT (.mk 4 (b : Int) [t]) = false := by rw [fixT]; simp
  have hparts : ∀ num bits items pick, fitV (.mk 4 (b : Int) [t]) (.mk num bits items pick) = 0 → num = 0 ∧ bits = [] ∧ pick = 0 ∧ items.length ≤ b ∧ Alls FitR (List.replicate items.length t) items ∧ putVs 4 [t] pick 0 items = putL (List.replicate items.length t) items := fun num bits items pick hv => by
    obtain ⟨h1, h2, h3⟩ := fit_parts0 hv
    rw [ofV_4] at h2
    simp at h1 h2
    obtain ⟨⟨rfl, rfl⟩, rfl⟩ := h2
    rw [fitVs_other (by decide), in4] at h3
    refine ⟨rfl, rfl, rfl, by omega, h3, ?_⟩
    rw [putVs_other (by decide), in4]
  refine ⟨fun h => (by rw [hfx] at h; cases h), fun v hv hin hl => ?_, fun s v h => ?_, fun h => (by rw [hfx] at h; cases h)⟩
  · obtain ⟨num, bits, items, pick⟩ := v
    obtain ⟨rfl, rfl, rfl, hlen, h4, h5⟩ := hparts num bits items pick hv
    rw [putV_row (.inr (.inl rfl)), h5] at hl ⊢
    rw [getV_row (.inr (.inl rfl)), no_mismatch (fun hft => by rw [hfx] at hft; cases hft)]
    simp only [Bool.false_eq_true, if_false]
    refine rowOf_put ?_ (by simp) (by simp) h4 hin.2 (good_replicate hg _) hl
    have hfit := putL_fit h4 hin.2 (good_replicate hg _)
    have hfst := putL_fst h4
    rw [replicate_kind] at hfst
    rw [List.length_replicate]
    generalize hps : putL (List.replicate items.length t) items = ps at *
    have hpl : ps.length = items.length := by
      have := congrArg List.length hfst
      simpa using this
    unfold manyT
    rw [if_neg (by decide), if_neg (by decide)]
    by_cases hi0 : items = []
    · subst hi0
      have : ps = [] := List.eq_nil_of_length_eq_zero hpl
      subst this
      simp [rowB, rowH, rowL]
    · have hpos : 1 ≤ items.length := by cases items with | nil => exact absurd rfl hi0 | cons => simp
      simp only [List.map_cons, List.headD_cons]
      by_cases hft : fixT t = true
      · have hk : kindOf t = some (szT t) := by unfold kindOf; rw [if_pos hft]
        have hz := hg.pos hft
        have hlen2 : (rowB ps).length = items.length * szT t := by
          rw [row_length hfit (fun p hp e => by
            have h6 : p.1 ∈ ps.map (·.1) := List.mem_map.2 ⟨p, hp, rfl⟩
            rw [hfst, hk] at h6
            rw [(List.mem_replicate.1 h6).2] at e
            cases e), hfst, hk, hdLen_replicate]
        have hne : rowB ps ≠ [] := fun e => by
          rw [e] at hlen2
          have := Nat.mul_pos hpos hz
          simp at hlen2
          omega
        rw [if_neg hne, hk]
        simp only
        rw [hlen2, Nat.mul_mod_left, Nat.mul_div_cancel _ hz]
        simp
        omega
      · have hk : kindOf t = none := by unfold kindOf; rw [if_neg hft]
        rw [hk] at hfst
        have hhd : hdLen (ps.map (·.1)) = 4 * items.length := by rw [hfst, hdLen_offsets]
        have hle : 4 * items.length ≤ (rowB ps).length := by
          unfold rowB
          rw [List.length_append, rowH_length _ hfit, hhd]
          omega
        have hne : rowB ps ≠ [] := fun e => by rw [e] at hle; simp at hle; omega
        have htake : (rowB ps).take 4 = le 4 (4 * items.length) := by
          match ps, hpl, hfst, hhd with
          | [], hpl, _, _ => simp at hpl; omega
          | (some z, c) :: ps, _, hfst, _ =>
            cases hi : items.length with
            | zero => omega
            | succ q => rw [hi, List.replicate_succ] at hfst; simp at hfst
          | (none, c) :: ps, _, _, hhd =>
            unfold rowB
            rw [hhd, rowH, List.append_assoc, List.take_append_of_le_length (by rw [le_length]; omega), List.take_of_length_le (by rw [le_length]; omega)]
        rw [if_neg hne, hk]
        simp only
        rw [htake, led_le 4 _ (by omega), if_neg (by omega)]
        have : ¬ (b : Int) < ((4 * items.length / 4 : Nat) : Int) := by omega
        rw [if_neg this, show 4 * items.length / 4 = items.length by omega]
  · obtain ⟨h1, h2⟩ := getV_ok (.inr (.inl rfl)) h
    obtain ⟨h3, bs, vs, h4, h5, rfl⟩ := rowOf_get h2
    rw [if_neg (by decide)] at h4 h5
    have hmb : (manyT 4 (b : Int) ([t].map kindOf) s).1 ≤ b := by
      revert h3
      unfold manyT
      rw [if_neg (by decide), if_neg (by decide)]
      split
      · intro _; exact Nat.zero_le _
      · split
        · split
          · intro h; simp at h
          · split
            · intro h; simp at h
            · intro _; simp only; omega
        · split
          · intro h; simp at h
          · split
            · intro h; simp at h
            · intro _; simp only; omega
    generalize (manyT 4 (b : Int) ([t].map kindOf) s).1 = m at *
    simp only [List.map_cons, List.map_nil, List.headD_cons] at h4 h5
    rw [← replicate_kind] at h4
    rw [← replicate_get] at h5
    obtain ⟨k1, k2, k3⟩ := row_get h4 h5 (good_replicate hg m)
    have hl : vs.length = m := by have := k1.length; simp at this; omega
    have hv : fitVs 4 [t] 0 0 vs = 0 := (fitVs_other (by decide) _ _ _ _).2 (by rw [in4, hl]; exact k1)
    refine ⟨fit_mk (by simp; omega) (by rw [ofV_4]; simp) hv, ⟨by unfold In; omega, k2⟩, ?_⟩
    rw [putV_row (.inr (.inl rfl)), putVs_other (by decide), in4, hl, k3]

theorem good_union {n : Int} {ins : List Ty} (hf : formT 8 n ins.length = true) (ih : ∀ t ∈ ins, Good t) : Good (.mk 8 n ins) := by
  have hlen8 : ins.length ≤ 8 := by
    unfold formT at hf
    rw [if_neg (by decide), if_neg (by decide), if_neg (by decide), if_neg (by decide), if_neg (by decide)] at hf
    simp at hf
    omega
  have hfx : fixT (.mk 8 n ins) = false := by rw [fixT]; simp
  have hk : kindOf (.mk 8 n ins) = none := by unfold kindOf; rw [if_neg (by rw [hfx]; simp)]
  have hin : ∀ (q : Nat) (t : Ty), ins[q]? = some t → inT 8 ins (q : Int) 0 = t := fun q t h => by unfold inT; rw [if_neg (by decide), if_pos rfl]; simp [h]
  have hput : ∀ num bits w (q : Nat) t, ins[q]? = some t → putV (.mk 8 n ins) (.mk num bits [w] (q : Int)) = UInt8.ofNat q :: putV t w := fun num bits w q t h => by
    rw [putV]
    simp [Ty.k, Ty.ins, putVs, hin q t h]
  have hget : ∀ c s t, ins[c.toNat]? = some t → getV (.mk 8 n ins) (c :: s) = if (getV t s).2 ≠ 0 then (noV, (getV t s).2) else (.mk 0 [] [(getV t s).1] c.toNat, 0) := fun c s t h => by
    have hlt := (List.getElem?_eq_some_iff.1 h).1
    rw [getV, getFs_map]
    show getOf _ _ _ _ _ _ = _
    unfold getOf
    rw [hk]
    simp [h, mism]
    omega
  refine ⟨fun h => (by rw [hfx] at h; cases h), fun v hv hi hl => ?_, fun s v h => ?_, fun h => (by rw [hfx] at h; cases h)⟩
  · obtain ⟨num, bits, items, pick⟩ := v
    obtain ⟨_, h2, h3⟩ := fit_parts0 hv
    rw [ofV_8] at h2
    simp at h2
    obtain ⟨⟨⟨⟨rfl, rfl⟩, hl1⟩, hp0⟩, hp1⟩ := h2
    obtain ⟨q, rfl⟩ := Int.eq_ofNat_of_zero_le hp0
    match items, hl1 with
    | [w], _ =>
      obtain ⟨t, ht⟩ : ∃ t, ins[q]? = some t := ⟨_, List.getElem?_eq_getElem (by omega)⟩
      rw [fitVs, hin q t ht] at h3
      have hw : fitV t w = 0 := by
        by_cases h : fitV t w = 0
        · exact h
        · rw [if_pos h] at h3; exact absurd h3 h
      have hgt := ih t (List.mem_of_getElem? ht)
      rw [hput 0 [] w q t ht] at hl ⊢
      have hq8 : q < 8 := by omega
      have hc : (UInt8.ofNat q).toNat = q := by simp; omega
      rw [hget _ _ t (by rw [hc]; exact ht), hgt.put w hw hi.2.1 (by rw [List.length_cons] at hl; omega)]
      simp [hc]
  · cases s with
    | nil =>
      rw [getV] at h
      replace h : getOf 8 n (ins.map kindOf) (getFs ins) (kindOf (.mk 8 n ins)) [] = (v, 0) := h
      unfold getOf at h
      rw [hk] at h
      simp [mism] at h
    | cons c s =>
      by_cases hc : c.toNat < ins.length
      · obtain ⟨t, ht⟩ : ∃ t, ins[c.toNat]? = some t := ⟨_, List.getElem?_eq_getElem hc⟩
        rw [hget c s t ht] at h
        have hgt := ih t (List.mem_of_getElem? ht)
        by_cases h1 : (getV t s).2 = 0
        · rw [if_neg (by simp [h1])] at h
          obtain ⟨k1, k2, k3⟩ := hgt.get s (getV t s).1 (by rw [← h1])
          cases h
          refine ⟨fit_mk (by simp) (by rw [ofV_8]; simp; omega) ?_, ⟨by unfold In; omega, k2, trivial⟩, ?_⟩
          · rw [fitVs, hin _ t ht, if_neg (by simp [k1]), fitVs]
          · rw [hput 0 [] _ _ t ht, k3]
            simp
        · rw [if_pos h1] at h
          exact absurd (congrArg Prod.snd h) h1
      · rw [getV, getFs_map] at h
        replace h : getOf 8 n (ins.map kindOf) (ins.map getV) (kindOf (.mk 8 n ins)) (c :: s) = (v, 0) := h
        unfold getOf at h
        rw [hk] at h
        simp [mism] at h
        rw [if_pos (by omega)] at h
        exact absurd (congrArg Prod.snd h) (by simp)

theorem good : ∀ t : Ty, (∃ e, chkT e t = 0) → Good t
  | .mk k n ins, ⟨e, h⟩ => by
    obtain ⟨h1, h2, _, h4⟩ := chkT_ok.1 h
    have ih : ∀ t ∈ ins, Good t := fun t ht => good t ⟨e + 1, chkTs_ok.1 h4 t ht⟩
    by_cases e1 : k = 1
    · subst e1; exact good_uint h2
    by_cases e2 : k = 2
    · subst e2; exact good_bool h2
    by_cases e3 : k = 3
    · subst e3; exact good_vector h2 ih
    by_cases e4 : k = 4
    · subst e4; exact good_list h2 ih
    by_cases e5 : k = 5
    · subst e5; exact good_bits h2
    by_cases e6 : k = 6
    · subst e6; exact good_bitlist h2
    by_cases e7 : k = 7
    · subst e7; exact good_container h2 ih
    obtain rfl : k = 8 := by omega
    exact good_union h2 ih
termination_by t => SizeOf.sizeOf t
decreasing_by have := List.sizeOf_lt_of_mem ht; simp; omega

end Go.Proofs.YtaajkbclojmbeaaGreatDoor.M
namespace Go.Proofs.YtaajkbclojmbeaaGreatDoor.M
open Go

/-- How much a row may be. -/
def sumP : List (Option Nat × List UInt8) → Nat
  | [] => 0
  | p :: ps => p.2.length + 4 + sumP ps
theorem row_sum : ∀ (ps : List (Option Nat × List UInt8)) (off : Nat), (rowH off ps).length + (rowL ps).length ≤ sumP ps
  | [], _ => Nat.le_refl _
  | (some n, b) :: ps, off => by
    have := row_sum ps off
    rw [rowH, rowL, sumP, List.length_append]
    show _ ≤ b.length + 4 + _
    omega
  | (none, b) :: ps, off => by
    have := row_sum ps (off + b.length)
    rw [rowH, rowL, sumP, List.length_append, List.length_append, le_length]
    show _ ≤ b.length + 4 + _
    omega
theorem flatMap_sum : ∀ (ps : List (Option Nat × List UInt8)), (ps.flatMap (·.2)).length ≤ sumP ps
  | [] => Nat.le_refl _
  | p :: ps => by
    have := flatMap_sum ps
    rw [List.flatMap_cons, List.length_append, sumP]
    omega
mutual
/-- Numbers of 32 bytes at most. -/
def smT : Ty → Prop
  | .mk k n ins => (k = 1 → n ≤ 32) ∧ smTs ins
def smTs : List Ty → Prop
  | [] => True
  | t :: ts => smT t ∧ smTs ts
end
theorem smTs_mem : ∀ {ts : List Ty} {t : Ty}, smTs ts → t ∈ ts → smT t
  | u :: ts, t, h, hm => by
    rcases List.mem_cons.1 hm with rfl | hm
    · exact h.1
    · exact smTs_mem h.2 hm
theorem smTs_of : ∀ {ts : List Ty}, (∀ t ∈ ts, smT t) → smTs ts
  | [], _ => trivial
  | t :: ts, h => ⟨h t (by simp), smTs_of fun u hu => h u (by simp [hu])⟩
theorem chk_small : ∀ (t : Ty) (d : Nat), chkT d t = 0 → smT t
  | .mk k n ins, d, h => by
    obtain ⟨_, h2, _, h4⟩ := chkT_ok.1 h
    refine ⟨fun hk => ?_, smTs_of fun t ht => chk_small t (d + 1) (chkTs_ok.1 h4 t ht)⟩
    subst hk
    unfold formT at h2
    simp at h2
    omega
termination_by t => SizeOf.sizeOf t
decreasing_by have := List.sizeOf_lt_of_mem ht; simp; omega
theorem sm_default : smT default := ⟨fun h => absurd h (by decide), trivial⟩
theorem sm_get {ins : List Ty} (h : smTs ins) (i : Nat) : smT (ins[i]?.getD default) := by
  cases hi : ins[i]? with
  | none => exact sm_default
  | some t => exact smTs_mem h (List.mem_of_getElem? hi)
theorem sm_in {ins : List Ty} (h : smTs ins) (k pick : Int) (i : Nat) : smT (inT k ins pick i) := by
  unfold inT
  split
  · exact sm_get h i
  · split
    · exact sm_get h _
    · exact sm_get h 0
mutual
/-- What is put is not long, beside how much the value holds. -/
theorem put_len (t : Ty) (ht : smT t) : ∀ v : Va, (putV t v).length + 4 ≤ 40 * cntV v
  | .mk num bits items pick => by
    obtain ⟨k, n, ins⟩ := t
    obtain ⟨h1, h2⟩ := ht
    have hs := puts_len k ins h2 pick items 0
    have hf := flatMap_sum (putVs k ins pick 0 items)
    have hr := row_sum (putVs k ins pick 0 items) (hdLen ((putVs k ins pick 0 items).map (·.1)))
    rw [putV, cntV]
    show (if k = 1 then le n.toNat num else if k = 2 then le 1 num else if k = 5 then packB bits else if k = 6 then listB bits else if k = 8 then UInt8.ofNat pick.toNat :: (putVs k ins pick 0 items).flatMap (·.2) else rowB (putVs k ins pick 0 items)).length + 4 ≤ _
    split
    · rename_i hk
      have := h1 hk
      rw [le_length]
      omega
    · split
      · rw [le_length]; omega
      · split
        · have hl : (packB bits).length = (bits.length + 7) / 8 := pack_length bits
          omega
        · split
          · have hl : (listB bits).length = bits.length / 8 + 1 := by unfold listB; rw [pack_length, List.length_append]; simp; omega
            omega
          · split
            · rw [List.length_cons]; omega
            · unfold rowB; rw [List.length_append]; omega
theorem puts_len (k : Int) (ins : List Ty) (h : smTs ins) (pick : Int) : ∀ (vs : List Va) (i : Nat), sumP (putVs k ins pick i vs) ≤ 40 * cntVs vs
  | [], i => by rw [putVs]; exact Nat.le_refl _
  | v :: vs, i => by
    have h1 := put_len (inT k ins pick i) (sm_in h k pick i) v
    have h2 := puts_len k ins h pick vs (i + 1)
    rw [putVs, sumP, cntVs]
    show (putV _ v).length + 4 + _ ≤ _
    omega
end

end Go.Proofs.YtaajkbclojmbeaaGreatDoor.M
namespace Go.Proofs.YtaajkbclojmbeaaGreatDoor.M
open Go

theorem rowL_append : ∀ (a b : List (Option Nat × List UInt8)), rowL (a ++ b) = rowL a ++ rowL b
  | [], b => rfl
  | (some z, x) :: a, b => by rw [List.cons_append, rowL, rowL, rowL_append a b]
  | (none, x) :: a, b => by rw [List.cons_append, rowL, rowL, rowL_append a b, List.append_assoc]
theorem rowH_append : ∀ (a b : List (Option Nat × List UInt8)) (off : Nat), rowH off (a ++ b) = rowH off a ++ rowH (off + (rowL a).length) b
  | [], b, off => by rw [List.nil_append, rowH, rowL, List.length_nil, Nat.add_zero, List.nil_append]
  | (some z, x) :: a, b, off => by rw [List.cons_append, rowH, rowH, rowL, rowH_append a b off, List.append_assoc]
  | (none, x) :: a, b, off => by rw [List.cons_append, rowH, rowH, rowL, rowH_append a b, List.append_assoc, List.length_append, Nat.add_assoc]
theorem rowH_fix {z : Nat} {b : List UInt8} (ps : List (Option Nat × List UInt8)) (off : Nat) : rowH off (ps ++ [(some z, b)]) = rowH off ps ++ b := by rw [rowH_append, rowH, rowH, List.append_nil]
theorem rowH_off {b : List UInt8} (ps : List (Option Nat × List UInt8)) (off : Nat) : rowH off (ps ++ [(none, b)]) = rowH off ps ++ le 4 (off + (rowL ps).length) := by rw [rowH_append, rowH, rowH, List.append_nil]
theorem rowL_fix {z : Nat} {b : List UInt8} (ps : List (Option Nat × List UInt8)) : rowL (ps ++ [(some z, b)]) = rowL ps := by rw [rowL_append, rowL, rowL, List.append_nil]
theorem rowL_off {b : List UInt8} (ps : List (Option Nat × List UInt8)) : rowL (ps ++ [(none, b)]) = rowL ps ++ b := by rw [rowL_append, rowL, rowL, List.append_nil]
theorem putVs_append (k : Int) (ins : List Ty) (p : Int) : ∀ (a b : List Va) (i : Nat), putVs k ins p i (a ++ b) = putVs k ins p i a ++ putVs k ins p (i + a.length) b
  | [], b, i => by rw [List.nil_append, putVs, List.nil_append, List.length_nil, Nat.add_zero]
  | v :: a, b, i => by rw [List.cons_append, putVs, putVs, putVs_append k ins p a b (i + 1), List.cons_append, List.length_cons, Nat.add_assoc, Nat.add_comm 1]
theorem putVs_next (k : Int) (ins : List Ty) (p : Int) {us : List Va} {j : Nat} {v : Va} (h : us[j]? = some v) : putVs k ins p 0 (us.take (j + 1)) = putVs k ins p 0 (us.take j) ++ [(kindOf (inT k ins p j), putV (inT k ins p j) v)] := by
  have hj := (List.getElem?_eq_some_iff.1 h).1
  rw [List.take_add_one, h]
  show putVs k ins p 0 (us.take j ++ [v]) = _
  rw [putVs_append, List.length_take_of_le (by omega), Nat.zero_add, putVs, putVs]
theorem fitVs_at (k : Int) (ins : List Ty) (p : Int) : ∀ (us : List Va) (i j : Nat) (v : Va), fitVs k ins p i us = 0 → us[j]? = some v → fitV (inT k ins p (i + j)) v = 0
  | [], i, j, v, _, h => by simp at h
  | u :: us, i, j, v, hf, h => by
    rw [fitVs] at hf
    by_cases hu : fitV (inT k ins p i) u = 0
    · rw [if_neg (by simp [hu])] at hf
      cases j with
      | zero => cases h; exact hu
      | succ j =>
        have := fitVs_at k ins p us (i + 1) j v hf (by simpa using h)
        rwa [Nat.add_assoc, Nat.add_comm 1] at this
    · rw [if_pos hu] at hf; exact absurd hf hu
theorem putVs_fst (k : Int) (ins : List Ty) (p : Int) : ∀ (us : List Va) (i : Nat), (putVs k ins p i us).map (·.1) = (List.range us.length).map fun j => kindOf (inT k ins p (i + j))
  | [], i => by rw [putVs]; rfl
  | u :: us, i => by
    rw [putVs, List.map_cons, putVs_fst k ins p us (i + 1), List.length_cons, List.range_succ_eq_map, List.map_cons, List.map_map, Nat.add_zero]
    congr 1
    apply List.map_congr_left
    intro j _
    show kindOf (inT k ins p (i + 1 + j)) = kindOf (inT k ins p (i + (j + 1)))
    rw [Nat.add_assoc, Nat.add_comm 1]
theorem row_eq {k n : Int} {ins : List Ty} (h : k = 3 ∨ k = 4 ∨ k = 7) (num : Nat) (bits : List Bool) (items : List Va) (pick : Int) {off : Nat} (ho : hdLen ((List.range items.length).map fun j => kindOf (inT k ins pick j)) = off) :
    putV (.mk k n ins) (.mk num bits items pick) = rowH off (putVs k ins pick 0 items) ++ rowL (putVs k ins pick 0 items) := by
  rw [putV_row h]
  unfold rowB
  rw [putVs_fst]
  simp only [Nat.zero_add]
  rw [ho]
theorem cntVs_take (us : List Va) (j : Nat) : cntVs (us.take j) ≤ cntVs us := by
  induction us generalizing j with
  | nil => simp [cntVs]
  | cons u us ih =>
    cases j with
    | zero => simp [cntVs]
    | succ j => rw [List.take_succ_cons, cntVs, cntVs]; have := ih j; omega
theorem hd_sum (k : Int) (ins : List Ty) (p : Int) : ∀ (us : List Va) (i : Nat), fitVs k ins p i us = 0 → inVs us → (∀ j, i ≤ j → j < i + us.length → ∃ e, chkT e (inT k ins p j) = 0) →
    hdLen ((putVs k ins p i us).map (·.1)) ≤ sumP (putVs k ins p i us)
  | [], i, _, _, _ => by rw [putVs]; exact Nat.le_refl _
  | u :: us, i, hf, hi, hc => by
    have hu : fitV (inT k ins p i) u = 0 := fitVs_at k ins p (u :: us) i 0 u hf rfl
    have hr : fitVs k ins p (i + 1) us = 0 := by
      rw [fitVs, if_neg (by simp [hu])] at hf
      exact hf
    have ih := hd_sum k ins p us (i + 1) hr hi.2 fun j h1 h2 => hc j (by omega) (by rw [List.length_cons]; omega)
    have hg := good _ (hc i (Nat.le_refl _) (by rw [List.length_cons]; omega))
    rw [putVs, List.map_cons, sumP]
    cases hk : kindOf (inT k ins p i) with
    | none => rw [hdLen]; show _ ≤ (putV _ u).length + 4 + _; omega
    | some z =>
      obtain ⟨h1, h2⟩ := kind_some hk
      have := hg.size h1 u hu hi.1
      rw [hdLen]
      show _ ≤ (putV _ u).length + 4 + _
      omega
end Go.Proofs.YtaajkbclojmbeaaGreatDoor.M
namespace Go.Proofs.YtaajkbclojmbeaaGreatDoor.M
open Go

/-- A chunk of no more bytes than it has. -/
def fill32 (s : List UInt8) : List UInt8 := s ++ List.replicate (32 - s.length) 0
/-- Bytes, cut into chunks. -/
def chunksT (s : List UInt8) : List (List UInt8) := (List.range ((s.length + 31) / 32)).map fun i => fill32 ((s.drop (32 * i)).take 32)
/-- A root and a number. -/
def mixT (root : List UInt8) (n : Nat) : List UInt8 := sumL (root ++ fill32 (le 8 n))
def mixE (root : List UInt8) (n : Nat) : List UInt8 × Nat := if root.length ≠ 32 then ([], 1) else (mixT root n, 0)
def packT (s : List UInt8) (most : Nat) : List UInt8 := treeT (chunksT s) ((most + 31) / 32)
/-- A plain type: of numbers, or of yes and no. -/
def isPl (t : Ty) : Bool := t.k == 1 || t.k == 2
mutual
def rootV (t : Ty) : Va → List UInt8
  | .mk num bits items pick =>
    if t.k = 1 ∨ t.k = 2 then le 32 num
    else if t.k = 5 then packT (packB bits) ((t.n.toNat + 7) / 8)
    else if t.k = 6 then mixT (packT (packB bits) ((t.n.toNat + 7) / 8)) bits.length
    else if t.k = 8 then mixT ((rootVs t.k t.ins pick 0 items).headD []) pick.toNat
    else if t.k = 7 then treeT (rootVs t.k t.ins pick 0 items) t.ins.length
    else if isPl (t.ins[0]?.getD default) = true then
      (if t.k = 4 then mixT (packT ((putVs t.k t.ins pick 0 items).flatMap (·.2)) (t.n.toNat * szT (t.ins[0]?.getD default))) items.length else packT ((putVs t.k t.ins pick 0 items).flatMap (·.2)) (t.n.toNat * szT (t.ins[0]?.getD default)))
    else (if t.k = 4 then mixT (treeT (rootVs t.k t.ins pick 0 items) t.n.toNat) items.length else treeT (rootVs t.k t.ins pick 0 items) t.n.toNat)
def rootVs (k : Int) (ins : List Ty) (pick : Int) (i : Nat) : List Va → List (List UInt8)
  | [] => []
  | v :: vs => rootV (inT k ins pick i) v :: rootVs k ins pick (i + 1) vs
end
/-- Root, with its error. -/
def rootE (t : Ty) (v : Va) : List UInt8 × Nat := if fitsV t v ≠ 0 then ([], fitsV t v) else (rootV t v, 0)

theorem fill_length {s : List UInt8} (h : s.length ≤ 32) : (fill32 s).length = 32 := by simp [fill32]; omega
theorem chunks_all (s : List UInt8) : (chunksT s).all isC = true := by
  unfold chunksT
  rw [List.all_map, List.all_eq_true]
  intro i hi
  simp only [Function.comp, isC, beq_iff_eq]
  exact fill_length (by simp; omega)
theorem chunks_length (s : List UInt8) : (chunksT s).length = (s.length + 31) / 32 := by simp [chunksT]
theorem z32_length : z32.length = 32 := by simp [z32]
theorem mix_length (r : List UInt8) (n : Nat) : (mixT r n).length = 32 := sum_length _
theorem treeT_length {l : List (List UInt8)} (m : Nat) (h : l.all isC = true) : (treeT l m).length = 32 := tree_length _ _ _ h z32_length
theorem ite_len {c : Prop} [Decidable c] {a b : List UInt8} (ha : a.length = 32) (hb : b.length = 32) : (if c then a else b).length = 32 := by split <;> assumption
mutual
theorem root_length (t : Ty) : ∀ v : Va, fitV t v = 0 → (rootV t v).length = 32
  | .mk num bits items pick, h => by
    have hr := roots_all t.k t.ins pick 0 items
    obtain ⟨k, n, ins⟩ := t
    rw [rootV]
    simp only [Ty.k, Ty.n, Ty.ins] at *
    have hf : fitVs k ins pick 0 items = 0 := by
      rw [fitV_eq] at h
      split at h
      · cases h
      · split at h
        · cases h
        · exact h
    have hr := hr hf
    refine ite_len (le_length _ _) (ite_len (treeT_length _ (chunks_all _)) (ite_len (mix_length _ _) (ite_len (mix_length _ _) (ite_len (treeT_length _ hr) (ite_len (ite_len (mix_length _ _) (treeT_length _ (chunks_all _))) (ite_len (mix_length _ _) (treeT_length _ hr)))))))
theorem roots_all (k : Int) (ins : List Ty) (pick : Int) (i : Nat) : ∀ vs : List Va, fitVs k ins pick i vs = 0 → (rootVs k ins pick i vs).all isC = true
  | [], _ => rfl
  | v :: vs, h => by
    rw [fitVs] at h
    by_cases h1 : fitV (inT k ins pick i) v = 0
    · rw [if_neg (by simp [h1])] at h
      rw [rootVs, List.all_cons, roots_all k ins pick (i + 1) vs h, Bool.and_true]
      simp only [isC, beq_iff_eq]
      exact root_length _ v h1
    · rw [if_pos h1] at h; exact absurd h h1
end
theorem rootVs_length (k : Int) (ins : List Ty) (pick : Int) : ∀ (vs : List Va) (i : Nat), (rootVs k ins pick i vs).length = vs.length
  | [], _ => rfl
  | v :: vs, i => by rw [rootVs, List.length_cons, rootVs_length k ins pick vs, List.length_cons]
theorem rootVs_next (k : Int) (ins : List Ty) (p : Int) : ∀ (us : List Va) (i j : Nat) (v : Va), us[j]? = some v → (rootVs k ins p i us)[j]? = some (rootV (inT k ins p (i + j)) v)
  | [], _, _, _, h => by simp at h
  | u :: us, i, 0, v, h => by
    simp at h
    subst h
    rw [rootVs]
    rfl
  | u :: us, i, j + 1, v, h => by
    rw [rootVs, List.getElem?_cons_succ, rootVs_next k ins p us (i + 1) j v (by simpa using h), show i + 1 + j = i + (j + 1) by omega]
end Go.Proofs.YtaajkbclojmbeaaGreatDoor.M
namespace Go.Proofs.YtaajkbclojmbeaaGreatDoor.M
open Go

theorem pairUp_length : ∀ l : List (List UInt8), (pairUp l).length = l.length / 2
  | [] => rfl
  | [a] => by simp [pairUp]
  | a :: b :: r => by
    rw [pairUp, List.length_cons, pairUp_length r, List.length_cons, List.length_cons]
    omega
theorem pairUp_at : ∀ (l : List (List UInt8)) (j : Nat) (a b : List UInt8), l[2 * j]? = some a → l[2 * j + 1]? = some b → (pairUp l)[j]? = some (sumL (a ++ b))
  | [], j, a, b, h, _ => by simp at h
  | [x], j, a, b, _, h => by simp at h
  | x :: y :: r, 0, a, b, h, h' => by
    simp at h h'
    subst h h'
    rfl
  | x :: y :: r, j + 1, a, b, h, h' => by
    rw [show 2 * (j + 1) = 2 * j + 1 + 1 by omega, List.getElem?_cons_succ, List.getElem?_cons_succ] at h
    rw [show 2 * (j + 1) + 1 = 2 * j + 1 + 1 + 1 by omega, List.getElem?_cons_succ, List.getElem?_cons_succ] at h'
    rw [pairUp, List.getElem?_cons_succ]
    exact pairUp_at r j a b h h'
theorem take_one {α : Type} {l : List α} {j : Nat} {x : α} (h : l[j]? = some x) : l.take (j + 1) = l.take j ++ [x] := by
  obtain ⟨hj, e⟩ := List.getElem?_eq_some_iff.1 h
  rw [List.take_succ_eq_append_getElem hj, e]
theorem pairUp_all : ∀ l : List (List UInt8), (pairUp l).all isC = true
  | [] => rfl
  | [a] => rfl
  | a :: b :: r => by
    rw [pairUp, List.all_cons, pairUp_all r]
    simp [isC, sum_length]
/-- Chunks, with zeros behind. -/
def padC (ls : List (List UInt8)) (d : Nat) : List (List UInt8) := ls ++ List.replicate (2 ^ d - ls.length) z32
theorem padC_length {ls : List (List UInt8)} {d : Nat} (h : ls.length ≤ 2 ^ d) : (padC ls d).length = 2 ^ d := by simp [padC]; omega
theorem padC_in {ls : List (List UInt8)} {d i : Nat} (h : i < ls.length) : (padC ls d)[i]? = ls[i]? := by
  rw [padC, List.getElem?_append_left h]
theorem padC_out {ls : List (List UInt8)} {d i : Nat} (h : ls.length ≤ i) (hi : i < 2 ^ d) : (padC ls d)[i]? = some z32 := by
  rw [padC, List.getElem?_append_right h, List.getElem?_replicate, if_pos (by omega)]
theorem padC_all {ls : List (List UInt8)} {d : Nat} (h : ls.all isC = true) : (padC ls d).all isC = true := by
  rw [padC, List.all_append, h, Bool.true_and, List.all_eq_true]
  intro x hx
  rw [(List.mem_replicate.1 hx).2]
  decide
theorem isC_at {l : List (List UInt8)} (h : l.all isC = true) {j : Nat} {a : List UInt8} (e : l[j]? = some a) : a.length = 32 := by
  have := List.all_eq_true.1 h a (List.mem_of_getElem? e)
  simpa [isC] using this
end Go.Proofs.YtaajkbclojmbeaaGreatDoor.M
namespace Go.Proofs.YtaajkbclojmbeaaGreatDoor
open Go Go.RowKit

theorem bcell {W w1 : World} (hb : Below W.heap.size W w1) : (∀ b o, b < W.heap.size → w1.cell? ⟨b, o, none⟩ = W.cell? ⟨b, o, none⟩) ∧ (∀ b o, b < W.heap.size → w1.frozen? ⟨b, o, none⟩ = W.frozen? ⟨b, o, none⟩) :=
  ⟨fun b o h => hb.cell (p := ⟨b, o, none⟩) h, fun b o h => hb.frozen (p := ⟨b, o, none⟩) h⟩

end Go.Proofs.YtaajkbclojmbeaaGreatDoor
namespace Go.Proofs.YtaajkbclojmbeaaGreatDoor
open Go Go.RowKit Go.Shelf

theorem repeat_any (c : Nat) (w : World) (h : c ≤ 32) :
    Calls Tryz.prog 67 #[.string ⟨#[0]⟩, .int .i64 c] w fun e w' => e = .returned (.string ⟨(List.replicate c (0 : UInt8)).toArray⟩) ∧ Below w.heap.size w w' := by
  have e : Lib.repeatL (⟨#[0]⟩ : ByteArray).data.toList c = List.replicate c (0 : UInt8) := by
    have := Lib.repeatL_replicate 0 1 c
    rw [Nat.mul_one] at this
    exact this
  have := Any.strings_Repeat lays105 Builder_Extra_105 ⟨#[0]⟩ c w (by omega) (by show 1 * c ≤ _; omega)
  rw [e] at this
  exact this

end Go.Proofs.YtaajkbclojmbeaaGreatDoor
namespace Go.Proofs.YtaajkbclojmbeaaGreatDoor
open Go Go.RowKit

/-- What a slice of items leads to, in the first n blocks. -/
inductive Lay (w : World) (n : Nat) : List M.It → Value → Prop
  | nil_ {a : Option Addr} {cap : Nat} (hm : cap ≤ maxLen) : Lay w n [] (.slice a 0 cap)
  | row {xs : List M.It} {b o cap : Nat} (V : Nat → Value) (hb : b < n) (hc : xs.length ≤ cap) (hm : cap ≤ maxLen)
      (c0 : ∀ i l d ys, xs[i]? = some (.mk l d ys) → w.cell? ⟨b, o + i * 3, none⟩ = some (.bool l))
      (c1 : ∀ i l d ys, xs[i]? = some (.mk l d ys) → w.cell? ⟨b, o + i * 3 + 1, none⟩ = some (.string ⟨d.toArray⟩))
      (c2 : ∀ i l d ys, xs[i]? = some (.mk l d ys) → w.cell? ⟨b, o + i * 3 + 2, none⟩ = some (V i))
      (r : ∀ i l d ys, xs[i]? = some (.mk l d ys) → Lay w n ys (V i)) : Lay w n xs (.slice (some ⟨b, o, none⟩) xs.length cap)

theorem Lay.from_ {w W : World} {n : Nat} {xs : List M.It} {v : Value} (h : Lay w n xs v) (hb : Below n w W) : Lay W n xs v := by
  induction h with
  | nil_ hm => exact .nil_ hm
  | row V hlt hc hm c0 c1 c2 _ ih =>
    exact .row V hlt hc hm (fun i l d ys e => (hb.cell (p := ⟨_, _, _⟩) hlt).trans (c0 i l d ys e)) (fun i l d ys e => (hb.cell (p := ⟨_, _, _⟩) hlt).trans (c1 i l d ys e)) (fun i l d ys e => (hb.cell (p := ⟨_, _, _⟩) hlt).trans (c2 i l d ys e)) ih
theorem Lay.mono {w : World} {n m : Nat} {xs : List M.It} {v : Value} (h : Lay w n xs v) (hnm : n ≤ m) : Lay w m xs v := by
  induction h with
  | nil_ hm => exact .nil_ hm
  | row V hlt hc hm c0 c1 c2 _ ih => exact .row V (by omega) hc hm c0 c1 c2 ih

/-- The slice itself. -/
theorem Lay.slice {w : World} {n : Nat} {xs : List M.It} {v : Value} (h : Lay w n xs v) : ∃ a cap, v = .slice a xs.length cap ∧ xs.length ≤ cap ∧ cap ≤ maxLen := by
  cases h with
  | nil_ hm => exact ⟨_, _, rfl, Nat.zero_le _, hm⟩
  | row V hlt hc hm c0 c1 c2 r => exact ⟨_, _, rfl, hc, hm⟩
/-- One item of a slice. -/
theorem Lay.at_ {w : World} {n k : Nat} {xs : List M.It} {v : Value} (h : Lay w n xs v) (hk : k < xs.length) : ∃ b o cap l d ys u, v = .slice (some ⟨b, o, none⟩) xs.length cap ∧ b < n ∧ xs[k]? = some (.mk l d ys) ∧
    w.cell? ⟨b, o + k * 3, none⟩ = some (.bool l) ∧ w.cell? ⟨b, o + k * 3 + 1, none⟩ = some (.string ⟨d.toArray⟩) ∧ w.cell? ⟨b, o + k * 3 + 2, none⟩ = some u ∧ Lay w n ys u := by
  cases h with
  | nil_ hm => simp at hk
  | @row _ b o cap V hlt hc hm c0 c1 c2 r =>
    obtain ⟨l, d, ys, e⟩ : ∃ l d ys, xs[k]? = some (.mk l d ys) := by
      rw [List.getElem?_eq_getElem hk]
      obtain ⟨l, d, ys⟩ := xs[k]
      exact ⟨l, d, ys, rfl⟩
    exact ⟨b, o, cap, l, d, ys, V k, rfl, hlt, e, c0 k l d ys e, c1 k l d ys e, c2 k l d ys e, r k l d ys e⟩

/-- The box of an item. -/
structure Box (W : World) (S : Nat) (l : Bool) (d : List UInt8) (v : Value) : Prop where
  c0 : W.cell? ⟨S, 0, none⟩ = some (.bool l)
  c1 : W.cell? ⟨S, 1, none⟩ = some (.string ⟨d.toArray⟩)
  c2 : W.cell? ⟨S, 2, none⟩ = some v
theorem Box.new (w : World) (l : Bool) (d : List UInt8) (v : Value) (t : TypeId) : Box (w.alloc (.cells #[.bool l, .string ⟨d.toArray⟩, v] t)) w.heap.size l d v := ⟨by simp [go_sem], by simp [go_sem], by simp [go_sem]⟩
theorem Box.from_ {w W : World} {S n : Nat} {l : Bool} {d : List UInt8} {v : Value} (h : Box w S l d v) (hb : Below n w W) (hS : S < n) : Box W S l d v :=
  ⟨(hb.cell (p := ⟨S, 0, none⟩) hS).trans h.c0, (hb.cell (p := ⟨S, 1, none⟩) hS).trans h.c1, (hb.cell (p := ⟨S, 2, none⟩) hS).trans h.c2⟩

end Go.Proofs.YtaajkbclojmbeaaGreatDoor
namespace Go.Proofs.YtaajkbclojmbeaaGreatDoor
open Go Go.RowKit

/-- A string from one place to another one. -/
theorem slice_str (l : List UInt8) (a b : Nat) (hab : a ≤ b) (hbl : b ≤ l.length) (w : World) :
    (Instr.slice 9 (.string ⟨l.toArray⟩) (some (.int .i64 a)) (some (.int .i64 b)) none).run Tryz.prog w = .ok (.string ((⟨l.toArray⟩ : ByteArray).extract a b)) w := by
  have h1 : ((a : Nat) : Int) ≤ b := by omega
  have hs : (⟨l.toArray⟩ : ByteArray).size = l.length := rfl
  have h2 : ((b : Nat) : Int) ≤ ((⟨l.toArray⟩ : ByteArray).size : Nat) := by rw [hs]; omega
  simp [Instr.slice, run_underlying Tryz.underlying9, Instr.sliceBounds, run_sliceBound, h1, h2]

end Go.Proofs.YtaajkbclojmbeaaGreatDoor
namespace Go.Proofs.YtaajkbclojmbeaaGreatDoor
open Go Go.RowKit Go.Lib

theorem Tryz.ofU8 : (Tryz.prog.info? 5).map (fun i => (i.zero, i.size, i.bytes)) = some (some (.int .u8 0), 1, 1) := by kernel_rfl

/-- What a conversion of a string to bytes leaves. -/
structure Seal (w w' : World) (e : TypeId) (b : ByteArray) (cap : Nat) (cur : Array Value) : Prop where
  row : w'.heap[w.heap.size]? = some (.cells cur e (cur.size, cur.size + 1))
  size : cur.size = cap
  len : b.size ≤ cap
  max : cap ≤ maxLen
  take : cur.toList.take b.size = strCells b
  low : Below w.heap.size w w'
  new : w'.heap.size = w.heap.size + 1

theorem seal_is (w : World) (e : TypeId) (b : ByteArray) (hb : b.size ≤ maxLen) : Seal w (bytesWorld w e b) e b (grownCap w b.size 0 e) (bytesCells w e b) := by
  have hge := grownCap_ge w b.size 0 e
  have hcm := grownCap_le_maxLen w b.size 0 e hb
  have hsz : (bytesCells w e b).size = grownCap w b.size 0 e := by
    have : b.data.size = b.size := rfl
    simp [bytesCells, this]
    omega
  refine ⟨bytesWorld_at_new w e b, hsz, hge, hcm, ?_, ⟨rfl, rfl, rfl, by rw [bytesWorld_size]; omega, fun k hk => bytesWorld_at_old w e b k hk⟩, bytesWorld_size w e b⟩
  have hl : b.size = (b.data.toList.map fun x : UInt8 => Value.int .u8 x.toNat).length := by
    rw [List.length_map, Array.length_toList]; rfl
  unfold bytesCells strCells
  rw [Array.toList_append, Array.toList_map, hl, List.take_left]


theorem wpList_seal {P : Program} {ops : Array Oper} {rest : List Oper} {o : Oper} {a : Act} {Q : Exit → Act → World → Prop} (w : World) (hgd : o.guard = none) (src dst e : TypeId) (x : Operand)
    (ho : o.op = .convert src dst x) (b : ByteArray) (hx : a.eval x = .string b) (hs : P.underlying src = some .string) (hd : P.underlying dst = some (.slice e)) (he : P.underlying e = some (.int .u8)) (hb : b.size ≤ maxLen)
    (h : ∀ cap cur w', Seal w w' e b cap cur → wpList P ops Q rest (a.put o.dst (.slice (some ⟨w.heap.size, 0, none⟩) b.size cap)) w') : wpList P ops Q (o :: rest) a w := by
  refine wpList_plain hgd fun K hK => ?_
  have hr := Go.Lib.run_convert_string_bytes (P := P) w src dst e b hs hd he
  unfold Oper.wp execOp
  simp only [ho, hx, Sem.run_bind, Sem.run_pure]
  rw [hr]
  exact hK _ _ (h _ _ _ (seal_is w e b hb))

/-- The cells of bytes. -/
def bc (l : List UInt8) : List Value := l.map fun (c : UInt8) => Value.int .u8 (c.toNat : Int)
theorem bc_length (l : List UInt8) : (bc l).length = l.length := by simp [bc]
theorem bc_append (l m : List UInt8) : bc (l ++ m) = bc l ++ bc m := by simp [bc]
theorem bc_one (l : List UInt8) : ∀ u ∈ bc l, u.oneCell' = true := fun u hu => by
  obtain ⟨_, _, rfl⟩ := List.mem_map.1 hu
  rfl
theorem bc_str (l : List UInt8) : strCells (⟨l.toArray⟩ : ByteArray) = bc l := rfl

/-- Bytes of one's own, in a block that is no older than B. -/
def Ow (B : Nat) (l : List UInt8) (v : Value) (w : World) : Prop := w.ownsRow B 5 1 v l.length (bc l)
theorem Ow.nil (B : Nat) (w : World) : Ow B [] (.slice none 0 0) w := World.ownsRow_nil _ _ _ _
theorem Ow.mono {A B : Nat} {l : List UInt8} {v : Value} {w : World} (h : Ow B l v w) (hAB : A ≤ B) : Ow A l v w := by
  refine ⟨h.1, ?_⟩
  rcases h.2 with h0 | ⟨g, cap, cur, hv, hb, h1⟩
  · exact .inl h0
  · exact .inr ⟨g, cap, cur, hv, by omega, h1⟩
theorem Ow.from_ {B : Nat} {l : List UInt8} {v : Value} {w W : World} (h : Ow B l v w) (hb : Below w.heap.size w W) : Ow B l v W := by
  refine ⟨h.1, ?_⟩
  rcases h.2 with h0 | ⟨g, cap, cur, hv, hB, hg, h1⟩
  · exact .inl h0
  · exact .inr ⟨g, cap, cur, hv, hB, (hb.block g (Array.getElem?_eq_some_iff.1 hg).1).trans hg, h1⟩

/-- What an append takes its bytes from. -/
def Sr (l : List UInt8) (v : Value) (w : World) : Prop := (v = .slice none 0 0 ∧ l = []) ∨ ∃ ad c, v = .slice (some ad) l.length c ∧ ∀ j u, (bc l)[j]? = some u → w.cell? (ad.add j) = some u
theorem Ow.sr {B : Nat} {l : List UInt8} {v : Value} {w : World} (h : Ow B l v w) : Sr l v w := by
  have h' := h
  rcases h.2 with ⟨h0, h1⟩ | ⟨g, cap, cur, rfl, hB, hg, h1⟩
  · exact .inl ⟨h0, List.eq_nil_of_length_eq_zero h1⟩
  · exact .inr ⟨⟨g, 0, none⟩, cap, rfl, World.ownsRow.cells h' (g := g) rfl⟩
theorem Sr.from_ {l : List UInt8} {v : Value} {w W : World} (h : Sr l v w) (hb : Below w.heap.size w W) : Sr l v W := by
  rcases h with h | ⟨ad, c, rfl, hc⟩
  · exact .inl h
  · exact .inr ⟨ad, c, rfl, fun j u hj => (hb.cell (World.block_lt_of_cell? _ _ (hc j u hj))).trans (hc j u hj)⟩
/-- The slice itself. -/
theorem Ow.len {B : Nat} {l : List UInt8} {v : Value} {w : World} (h : Ow B l v w) : ∃ a cap, v = .slice a l.length cap := by
  rcases h.2 with ⟨h0, h1⟩ | ⟨g, cap, cur, rfl, hB, hg, h1⟩
  · exact ⟨none, 0, by rw [h0, h1]⟩
  · exact ⟨_, _, rfl⟩
theorem Ow.block {B : Nat} {l : List UInt8} {v : Value} {w : World} (h : Ow B l v w) : ∀ k, v.ownBlock = some k → B ≤ k := fun k e => (World.ownsRow.lt h k e).1

theorem grown_refl (w : World) (v : Option Nat) : w.grownBy w v := ⟨rfl, rfl, rfl, Nat.le_refl _, fun _ _ _ => rfl⟩

section
variable {ops : Array Oper} {rest : List Oper} {o : Oper} {a : Act} {Q : Exit → Act → World → Prop}
end

theorem Seal.sr {w w2 : World} {l : List UInt8} {cap : Nat} {cur : Array Value} (h : Seal w w2 5 ⟨l.toArray⟩ cap cur) : Sr l (.slice (some ⟨w.heap.size, 0, none⟩) l.length cap) w2 := by
  refine .inr ⟨_, _, rfl, fun j u hj => ?_⟩
  have hadd : (⟨w.heap.size, 0, none⟩ : Addr).add j = ⟨w.heap.size, j, none⟩ := by unfold Addr.add; split <;> simp_all
  rw [hadd, cell_of_row w2 _ j cur 5 _ h.row]
  have ht : cur.toList.take l.length = bc l := by
    have := h.take
    rwa [bc_str, show (⟨l.toArray⟩ : ByteArray).size = l.length by simp [ByteArray.size]] at this
  rw [← ht, List.getElem?_take] at hj
  split at hj
  · simpa using hj
  · cases hj
end Go.Proofs.YtaajkbclojmbeaaGreatDoor
