/- The law of halves. A slice of texts that comes in, as it lies in memory. The tables of keccak as the cards of layer 9 list them. MerkleHalves: the statement: for every input the call returns true and each argument reads as it did. The listed library tables are tied to the text (the card). Its condition: none beyond the card's own words. -/
import Derived.Test.YtgloapcfmlijlaaGreatDoorH17
import Derived.OpenShut
import Derived.Test.YtgloapcfmlijlaaGreatDoorH03
import Derived.Lib.SmallJoins
import Derived.Deep.Slices
import Derived.SizedLaws
import Derived.Test.YtgloapcfmlijlaaGreatDoorH14
import Derived.Test.YtgloapcfmlijlaaGreatDoorRows
import Derived.ProofKit
import Derived.Lib.LaidTab
import Derived.MakeChecks
import Derived.Stop.LaidErr
import Derived.Test.YtgloapcfmlijlaaGreatDoorCards
import Derived.Test.YtgloapcfmlijlaaGreatDoorTie
import Derived.ShutString
import Derived.ChangeOld
import Derived.Below
import Derived.LaidMore
import Derived.Lay
import Derived.SevenTiedAt
import Derived.Stop.Joined
namespace Go.Proofs.YtgloapcfmlijlaaGreatDoor
open Go Go.RowKit Go.Shelf Go.Lib
attribute [local go_sem] Oper.semAt_some

theorem Ts.takeT {w : World} {n k cap : Nat} {ls : List (List UInt8)} {a : Option Addr} (h : Ts w n ls (.slice a ls.length cap)) (hk : k ≤ ls.length) : Ts w n (ls.take k) (.slice a (ls.take k).length cap) := by
  generalize hv : Value.slice a ls.length cap = v at h
  cases h with
  | nil_ hm =>
    injection hv with h1 h2 h3
    subst h3
    rw [List.take_nil]
    exact .nil_ hm
  | row hb hc hm c =>
    injection hv with h1 h2 h3
    subst h1 h3
    refine .row hb (by simp; omega) hm fun i s e => c i s ?_
    rw [List.getElem?_take] at e
    split at e
    · exact e
    · cases e
theorem Ts.dropT {w : World} {n k cap : Nat} {ls : List (List UInt8)} {a : Option Addr} (h : Ts w n ls (.slice a ls.length cap)) (hk : k ≤ ls.length) : Ts w n (ls.drop k) (.slice (if cap = k then a else a.map (·.add k)) (ls.drop k).length (cap - k)) := by
  by_cases hz : (ls.drop k).length = 0
  · obtain ⟨_, _, e, _, hm⟩ := h.slice
    injection e with _ _ e3
    rw [hz, List.eq_nil_of_length_eq_zero hz]
    exact .nil_ (by omega)
  · have hlt : k < ls.length := by rw [List.length_drop] at hz; omega
    generalize hv : Value.slice a ls.length cap = v at h
    cases h with
    | nil_ hm => simp at hlt
    | @row _ b o _ hb hc hm c =>
      injection hv with h1 h2 h3
      subst h1 h3
      rw [if_neg (by omega), show (some (⟨b, o, none⟩ : Addr)).map (·.add k) = some ⟨b, o + k, none⟩ by simp [Addr.add]]
      refine .row hb (by simp; omega) (by omega) fun i s e => ?_
      rw [List.getElem?_drop] at e
      rw [show o + k + i = o + (k + i) by omega]
      exact c _ s e
theorem take_min9 {α : Type} (ls : List α) (h : Nat) : ls.take (min ls.length h) = ls.take h := by
  rcases Nat.le_total ls.length h with hl | hl
  · rw [Nat.min_eq_left hl, List.take_length, List.take_of_length_le hl]
  · rw [Nat.min_eq_right hl]
theorem drop_min9 {α : Type} (ls : List α) (h : Nat) : ls.drop (min ls.length h) = ls.drop h := by
  rcases Nat.le_total ls.length h with hl | hl
  · rw [Nat.min_eq_left hl, List.drop_length, List.drop_of_length_le hl]
  · rw [Nat.min_eq_right hl]
theorem all_take9 {ls : List (List UInt8)} (h : ls.all M.isC = true) (k : Nat) : (ls.take k).all M.isC = true := by
  rw [List.all_eq_true] at *
  exact fun x hx => h x (List.mem_of_mem_take hx)
theorem all_drop9 {ls : List (List UInt8)} (h : ls.all M.isC = true) (k : Nat) : (ls.drop k).all M.isC = true := by
  rw [List.all_eq_true] at *
  exact fun x hx => h x (List.mem_of_mem_drop hx)
theorem treeE_yes {ls : List (List UInt8)} {m : Nat} (h1 : 1 ≤ m) (h2 : m ≤ 512) (h3 : ls.length ≤ m) (h : ls.all M.isC = true) : M.treeE ls (m : Nat) = (M.treeT ls m, 0) := by
  unfold M.treeE
  rw [if_neg (by rw [h]; simp; omega), Int.toNat_natCast]
theorem treeE_no {ls : List (List UInt8)} {m : Int} (h : ls.all M.isC = false) : M.treeE ls m = ([], 1) := by
  unfold M.treeE
  rw [if_pos (Or.inr (Or.inr (Or.inr h)))]
theorem treeT_halves {ls : List (List UInt8)} {r : Nat} (hr : r ≤ 8) (h : ls.length ≤ 2 ^ (r + 1)) : M.treeT ls (2 ^ (r + 1)) = M.sumL (M.treeT (ls.take (min ls.length (2 ^ r))) (2 ^ r) ++ M.treeT (ls.drop (min ls.length (2 ^ r))) (2 ^ r)) := by
  unfold M.treeT
  rw [M.dep_pow (by omega), M.dep_pow (by omega), M.tree_halves r ls M.z32 h, take_min9, drop_min9]

set_option maxRecDepth 100000 in
set_option maxHeartbeats 4000000 in
theorem halves_0 (ls : List (List UInt8)) (a : Option Addr) (cap X : Nat) (w : World) (hX : X < 256) (hr : X % 5 = 0) (hT : Ts w w.heap.size ls (.slice a ls.length cap)) (hTab : Tab w) :
    Calls Tryz.prog 6 #[.slice a ls.length cap, .int .u8 (X : Nat)] w fun e w' => e = .returned (.bool true) ∧ Below w.heap.size w w' := by
  have hr' : (X : Int) % 5 = 0 := by omega
  have hcap : ls.length ≤ cap := by obtain ⟨_, _, e, hm, _⟩ := hT.slice; injection e with _ _ e3; omega
  have hcm : cap ≤ maxLen := by obtain ⟨_, _, e, _, hm⟩ := hT.slice; injection e with _ _ e3; omega
  have HW := Lib.hid (works9 w hTab)
  have HT := Lib.hid (fun Y (h : Below w.heap.size w Y) => tree_any ls 2 a cap Y ((hT.from_ h).mono h.size) (hTab.from h))
  by_cases hlen : 2 < ls.length
  · have hli : (2 : Int) < ls.length := by omega
    clear HT hT
    go_enter Tryz.func6, Tryz.ntmps6
    go_wp2_with fail
    refine HW.out.mono ?_
    rintro e w1 ⟨rfl, hb1⟩
    go_wp2_with fail
    go_ret
    exact ⟨rfl, hb1⟩
  · have hli : ¬ (2 : Int) < ls.length := by omega
    cases hall : ls.all M.isC with
    | false =>
      rw [treeE_no hall] at HT
      clear hT
      go_enter Tryz.func6, Tryz.ntmps6
      go_wp2_with fail
      refine HW.out.mono ?_
      rintro e w1 ⟨rfl, hb1⟩
      go_wp2_with fail
      refine (HT.out _ hb1).mono ?_
      rintro e w2 ⟨rfl, hb2⟩
      go_wp2_with fail
      go_ret
      exact ⟨rfl, hb1.trans (hb2.mono hb1.size)⟩
    | true =>
      rw [show (2 : Int) = ((2 : Nat) : Int) from rfl, treeE_yes (by decide) (by decide) (by omega) hall, show (2 : Nat) = 2 ^ (0 + 1) from rfl, treeT_halves (r := 0) (by decide) (by omega), show (2 : Nat) ^ 0 = 1 from rfl, show (2 : Nat) ^ (0 + 1) = 2 from rfl] at HT
      obtain ⟨k, hk⟩ : ∃ k, min ls.length 1 = k := ⟨_, rfl⟩
      have hkl : k ≤ ls.length := by omega
      have hki : (k : Int) ≤ cap := by omega
      have hkj : (k : Int) ≤ ls.length := by omega
      have hmin : min (ls.length : Int) (1 : Int) = (k : Int) := by omega
      rw [hk] at HT
      have HA := Lib.hid (fun Y (h : Below w.heap.size w Y) => tree_any (ls.take k) 1 a cap Y (((hT.takeT hkl).from_ h).mono h.size) (hTab.from h))
      have HB := Lib.hid (fun Y (h : Below w.heap.size w Y) => tree_any (ls.drop k) 1 _ _ Y (((hT.dropT hkl).from_ h).mono h.size) (hTab.from h))
      rw [show (1 : Int) = ((1 : Nat) : Int) from rfl, treeE_yes (by decide) (by decide) (by simp; omega) (all_take9 hall k), List.length_take, Nat.min_eq_left hkl] at HA
      rw [show (1 : Int) = ((1 : Nat) : Int) from rfl, treeE_yes (by decide) (by decide) (by simp; omega) (all_drop9 hall k), List.length_drop] at HB
      have hA : (M.treeT (ls.take k) 1).length = 32 := M.treeT_length _ (all_take9 hall k)
      have hB : (M.treeT (ls.drop k) 1).length = 32 := M.treeT_length _ (all_drop9 hall k)
      generalize M.treeT (ls.take k) 1 = A at *
      generalize M.treeT (ls.drop k) 1 = B at *
      have hsum := M.sum_length
      have HS := Lib.hid (fun Y (h : Below w.heap.size w Y) => sum_any (A ++ B) Y (by simp; omega) (hTab.from h))
      have hslA : ∀ Y, (Instr.slice 39 (.slice a ls.length cap) none (some (.int .i64 (k : Nat))) none).run Tryz.prog Y = .ok (.slice a k cap) Y := fun Y => by go_simp
      have hslB : ∀ Y, (Instr.slice 39 (.slice a ls.length cap) (some (.int .i64 (k : Nat))) none none).run Tryz.prog Y = .ok (.slice (if cap = k then a else a.map (·.add k)) (ls.length - k) (cap - k)) Y := fun Y => by go_simp
      generalize (if cap = k then a else a.map (·.add k)) = ad at *
      clear hT hk hall
      go_enter Tryz.func6, Tryz.ntmps6
      go_wp2_with fail
      refine HW.out.mono ?_
      rintro e w1 ⟨rfl, hb1⟩
      go_wp2_with fail
      refine (HT.out _ hb1).mono ?_
      rintro e w2 ⟨rfl, hb2⟩
      have hw2 := hb1.trans (hb2.mono hb1.size)
      go_wp2_with fail
      refine (HA.out _ hw2).mono ?_
      rintro e w3 ⟨rfl, hb3⟩
      have hw3 := hw2.trans (hb3.mono hw2.size)
      go_wp2_with fail
      refine (HB.out _ hw3).mono ?_
      rintro e w4 ⟨rfl, hb4⟩
      have hw4 := hw3.trans (hb4.mono hw3.size)
      go_wp2_with fail
      refine (HS.out _ hw4).mono ?_
      rintro e w5 ⟨rfl, hb5⟩
      have hw5 := hw4.trans (hb5.mono hw4.size)
      go_wp2_with fail
      go_ret
      exact ⟨rfl, hw5⟩
set_option maxRecDepth 100000 in
set_option maxHeartbeats 4000000 in
theorem halves_1 (ls : List (List UInt8)) (a : Option Addr) (cap X : Nat) (w : World) (hX : X < 256) (hr : X % 5 = 1) (hT : Ts w w.heap.size ls (.slice a ls.length cap)) (hTab : Tab w) :
    Calls Tryz.prog 6 #[.slice a ls.length cap, .int .u8 (X : Nat)] w fun e w' => e = .returned (.bool true) ∧ Below w.heap.size w w' := by
  have hr' : (X : Int) % 5 = 1 := by omega
  have hcap : ls.length ≤ cap := by obtain ⟨_, _, e, hm, _⟩ := hT.slice; injection e with _ _ e3; omega
  have hcm : cap ≤ maxLen := by obtain ⟨_, _, e, _, hm⟩ := hT.slice; injection e with _ _ e3; omega
  have HW := Lib.hid (works9 w hTab)
  have HT := Lib.hid (fun Y (h : Below w.heap.size w Y) => tree_any ls 4 a cap Y ((hT.from_ h).mono h.size) (hTab.from h))
  by_cases hlen : 4 < ls.length
  · have hli : (4 : Int) < ls.length := by omega
    clear HT hT
    go_enter Tryz.func6, Tryz.ntmps6
    go_wp2_with fail
    refine HW.out.mono ?_
    rintro e w1 ⟨rfl, hb1⟩
    go_wp2_with fail
    go_ret
    exact ⟨rfl, hb1⟩
  · have hli : ¬ (4 : Int) < ls.length := by omega
    cases hall : ls.all M.isC with
    | false =>
      rw [treeE_no hall] at HT
      clear hT
      go_enter Tryz.func6, Tryz.ntmps6
      go_wp2_with fail
      refine HW.out.mono ?_
      rintro e w1 ⟨rfl, hb1⟩
      go_wp2_with fail
      refine (HT.out _ hb1).mono ?_
      rintro e w2 ⟨rfl, hb2⟩
      go_wp2_with fail
      go_ret
      exact ⟨rfl, hb1.trans (hb2.mono hb1.size)⟩
    | true =>
      rw [show (4 : Int) = ((4 : Nat) : Int) from rfl, treeE_yes (by decide) (by decide) (by omega) hall, show (4 : Nat) = 2 ^ (1 + 1) from rfl, treeT_halves (r := 1) (by decide) (by omega), show (2 : Nat) ^ 1 = 2 from rfl, show (2 : Nat) ^ (1 + 1) = 4 from rfl] at HT
      obtain ⟨k, hk⟩ : ∃ k, min ls.length 2 = k := ⟨_, rfl⟩
      have hkl : k ≤ ls.length := by omega
      have hki : (k : Int) ≤ cap := by omega
      have hkj : (k : Int) ≤ ls.length := by omega
      have hmin : min (ls.length : Int) (2 : Int) = (k : Int) := by omega
      rw [hk] at HT
      have HA := Lib.hid (fun Y (h : Below w.heap.size w Y) => tree_any (ls.take k) 2 a cap Y (((hT.takeT hkl).from_ h).mono h.size) (hTab.from h))
      have HB := Lib.hid (fun Y (h : Below w.heap.size w Y) => tree_any (ls.drop k) 2 _ _ Y (((hT.dropT hkl).from_ h).mono h.size) (hTab.from h))
      rw [show (2 : Int) = ((2 : Nat) : Int) from rfl, treeE_yes (by decide) (by decide) (by simp; omega) (all_take9 hall k), List.length_take, Nat.min_eq_left hkl] at HA
      rw [show (2 : Int) = ((2 : Nat) : Int) from rfl, treeE_yes (by decide) (by decide) (by simp; omega) (all_drop9 hall k), List.length_drop] at HB
      have hA : (M.treeT (ls.take k) 2).length = 32 := M.treeT_length _ (all_take9 hall k)
      have hB : (M.treeT (ls.drop k) 2).length = 32 := M.treeT_length _ (all_drop9 hall k)
      generalize M.treeT (ls.take k) 2 = A at *
      generalize M.treeT (ls.drop k) 2 = B at *
      have hsum := M.sum_length
      have HS := Lib.hid (fun Y (h : Below w.heap.size w Y) => sum_any (A ++ B) Y (by simp; omega) (hTab.from h))
      have hslA : ∀ Y, (Instr.slice 39 (.slice a ls.length cap) none (some (.int .i64 (k : Nat))) none).run Tryz.prog Y = .ok (.slice a k cap) Y := fun Y => by go_simp
      have hslB : ∀ Y, (Instr.slice 39 (.slice a ls.length cap) (some (.int .i64 (k : Nat))) none none).run Tryz.prog Y = .ok (.slice (if cap = k then a else a.map (·.add k)) (ls.length - k) (cap - k)) Y := fun Y => by go_simp
      generalize (if cap = k then a else a.map (·.add k)) = ad at *
      clear hT hk hall
      go_enter Tryz.func6, Tryz.ntmps6
      go_wp2_with fail
      refine HW.out.mono ?_
      rintro e w1 ⟨rfl, hb1⟩
      go_wp2_with fail
      refine (HT.out _ hb1).mono ?_
      rintro e w2 ⟨rfl, hb2⟩
      have hw2 := hb1.trans (hb2.mono hb1.size)
      go_wp2_with fail
      refine (HA.out _ hw2).mono ?_
      rintro e w3 ⟨rfl, hb3⟩
      have hw3 := hw2.trans (hb3.mono hw2.size)
      go_wp2_with fail
      refine (HB.out _ hw3).mono ?_
      rintro e w4 ⟨rfl, hb4⟩
      have hw4 := hw3.trans (hb4.mono hw3.size)
      go_wp2_with fail
      refine (HS.out _ hw4).mono ?_
      rintro e w5 ⟨rfl, hb5⟩
      have hw5 := hw4.trans (hb5.mono hw4.size)
      go_wp2_with fail
      go_ret
      exact ⟨rfl, hw5⟩
set_option maxRecDepth 100000 in
set_option maxHeartbeats 4000000 in
theorem halves_2 (ls : List (List UInt8)) (a : Option Addr) (cap X : Nat) (w : World) (hX : X < 256) (hr : X % 5 = 2) (hT : Ts w w.heap.size ls (.slice a ls.length cap)) (hTab : Tab w) :
    Calls Tryz.prog 6 #[.slice a ls.length cap, .int .u8 (X : Nat)] w fun e w' => e = .returned (.bool true) ∧ Below w.heap.size w w' := by
  have hr' : (X : Int) % 5 = 2 := by omega
  have hcap : ls.length ≤ cap := by obtain ⟨_, _, e, hm, _⟩ := hT.slice; injection e with _ _ e3; omega
  have hcm : cap ≤ maxLen := by obtain ⟨_, _, e, _, hm⟩ := hT.slice; injection e with _ _ e3; omega
  have HW := Lib.hid (works9 w hTab)
  have HT := Lib.hid (fun Y (h : Below w.heap.size w Y) => tree_any ls 8 a cap Y ((hT.from_ h).mono h.size) (hTab.from h))
  by_cases hlen : 8 < ls.length
  · have hli : (8 : Int) < ls.length := by omega
    clear HT hT
    go_enter Tryz.func6, Tryz.ntmps6
    go_wp2_with fail
    refine HW.out.mono ?_
    rintro e w1 ⟨rfl, hb1⟩
    go_wp2_with fail
    go_ret
    exact ⟨rfl, hb1⟩
  · have hli : ¬ (8 : Int) < ls.length := by omega
    cases hall : ls.all M.isC with
    | false =>
      rw [treeE_no hall] at HT
      clear hT
      go_enter Tryz.func6, Tryz.ntmps6
      go_wp2_with fail
      refine HW.out.mono ?_
      rintro e w1 ⟨rfl, hb1⟩
      go_wp2_with fail
      refine (HT.out _ hb1).mono ?_
      rintro e w2 ⟨rfl, hb2⟩
      go_wp2_with fail
      go_ret
      exact ⟨rfl, hb1.trans (hb2.mono hb1.size)⟩
    | true =>
      rw [show (8 : Int) = ((8 : Nat) : Int) from rfl, treeE_yes (by decide) (by decide) (by omega) hall, show (8 : Nat) = 2 ^ (2 + 1) from rfl, treeT_halves (r := 2) (by decide) (by omega), show (2 : Nat) ^ 2 = 4 from rfl, show (2 : Nat) ^ (2 + 1) = 8 from rfl] at HT
      obtain ⟨k, hk⟩ : ∃ k, min ls.length 4 = k := ⟨_, rfl⟩
      have hkl : k ≤ ls.length := by omega
      have hki : (k : Int) ≤ cap := by omega
      have hkj : (k : Int) ≤ ls.length := by omega
      have hmin : min (ls.length : Int) (4 : Int) = (k : Int) := by omega
      rw [hk] at HT
      have HA := Lib.hid (fun Y (h : Below w.heap.size w Y) => tree_any (ls.take k) 4 a cap Y (((hT.takeT hkl).from_ h).mono h.size) (hTab.from h))
      have HB := Lib.hid (fun Y (h : Below w.heap.size w Y) => tree_any (ls.drop k) 4 _ _ Y (((hT.dropT hkl).from_ h).mono h.size) (hTab.from h))
      rw [show (4 : Int) = ((4 : Nat) : Int) from rfl, treeE_yes (by decide) (by decide) (by simp; omega) (all_take9 hall k), List.length_take, Nat.min_eq_left hkl] at HA
      rw [show (4 : Int) = ((4 : Nat) : Int) from rfl, treeE_yes (by decide) (by decide) (by simp; omega) (all_drop9 hall k), List.length_drop] at HB
      have hA : (M.treeT (ls.take k) 4).length = 32 := M.treeT_length _ (all_take9 hall k)
      have hB : (M.treeT (ls.drop k) 4).length = 32 := M.treeT_length _ (all_drop9 hall k)
      generalize M.treeT (ls.take k) 4 = A at *
      generalize M.treeT (ls.drop k) 4 = B at *
      have hsum := M.sum_length
      have HS := Lib.hid (fun Y (h : Below w.heap.size w Y) => sum_any (A ++ B) Y (by simp; omega) (hTab.from h))
      have hslA : ∀ Y, (Instr.slice 39 (.slice a ls.length cap) none (some (.int .i64 (k : Nat))) none).run Tryz.prog Y = .ok (.slice a k cap) Y := fun Y => by go_simp
      have hslB : ∀ Y, (Instr.slice 39 (.slice a ls.length cap) (some (.int .i64 (k : Nat))) none none).run Tryz.prog Y = .ok (.slice (if cap = k then a else a.map (·.add k)) (ls.length - k) (cap - k)) Y := fun Y => by go_simp
      generalize (if cap = k then a else a.map (·.add k)) = ad at *
      clear hT hk hall
      go_enter Tryz.func6, Tryz.ntmps6
      go_wp2_with fail
      refine HW.out.mono ?_
      rintro e w1 ⟨rfl, hb1⟩
      go_wp2_with fail
      refine (HT.out _ hb1).mono ?_
      rintro e w2 ⟨rfl, hb2⟩
      have hw2 := hb1.trans (hb2.mono hb1.size)
      go_wp2_with fail
      refine (HA.out _ hw2).mono ?_
      rintro e w3 ⟨rfl, hb3⟩
      have hw3 := hw2.trans (hb3.mono hw2.size)
      go_wp2_with fail
      refine (HB.out _ hw3).mono ?_
      rintro e w4 ⟨rfl, hb4⟩
      have hw4 := hw3.trans (hb4.mono hw3.size)
      go_wp2_with fail
      refine (HS.out _ hw4).mono ?_
      rintro e w5 ⟨rfl, hb5⟩
      have hw5 := hw4.trans (hb5.mono hw4.size)
      go_wp2_with fail
      go_ret
      exact ⟨rfl, hw5⟩
set_option maxRecDepth 100000 in
set_option maxHeartbeats 4000000 in
theorem halves_3 (ls : List (List UInt8)) (a : Option Addr) (cap X : Nat) (w : World) (hX : X < 256) (hr : X % 5 = 3) (hT : Ts w w.heap.size ls (.slice a ls.length cap)) (hTab : Tab w) :
    Calls Tryz.prog 6 #[.slice a ls.length cap, .int .u8 (X : Nat)] w fun e w' => e = .returned (.bool true) ∧ Below w.heap.size w w' := by
  have hr' : (X : Int) % 5 = 3 := by omega
  have hcap : ls.length ≤ cap := by obtain ⟨_, _, e, hm, _⟩ := hT.slice; injection e with _ _ e3; omega
  have hcm : cap ≤ maxLen := by obtain ⟨_, _, e, _, hm⟩ := hT.slice; injection e with _ _ e3; omega
  have HW := Lib.hid (works9 w hTab)
  have HT := Lib.hid (fun Y (h : Below w.heap.size w Y) => tree_any ls 16 a cap Y ((hT.from_ h).mono h.size) (hTab.from h))
  by_cases hlen : 16 < ls.length
  · have hli : (16 : Int) < ls.length := by omega
    clear HT hT
    go_enter Tryz.func6, Tryz.ntmps6
    go_wp2_with fail
    refine HW.out.mono ?_
    rintro e w1 ⟨rfl, hb1⟩
    go_wp2_with fail
    go_ret
    exact ⟨rfl, hb1⟩
  · have hli : ¬ (16 : Int) < ls.length := by omega
    cases hall : ls.all M.isC with
    | false =>
      rw [treeE_no hall] at HT
      clear hT
      go_enter Tryz.func6, Tryz.ntmps6
      go_wp2_with fail
      refine HW.out.mono ?_
      rintro e w1 ⟨rfl, hb1⟩
      go_wp2_with fail
      refine (HT.out _ hb1).mono ?_
      rintro e w2 ⟨rfl, hb2⟩
      go_wp2_with fail
      go_ret
      exact ⟨rfl, hb1.trans (hb2.mono hb1.size)⟩
    | true =>
      rw [show (16 : Int) = ((16 : Nat) : Int) from rfl, treeE_yes (by decide) (by decide) (by omega) hall, show (16 : Nat) = 2 ^ (3 + 1) from rfl, treeT_halves (r := 3) (by decide) (by omega), show (2 : Nat) ^ 3 = 8 from rfl, show (2 : Nat) ^ (3 + 1) = 16 from rfl] at HT
      obtain ⟨k, hk⟩ : ∃ k, min ls.length 8 = k := ⟨_, rfl⟩
      have hkl : k ≤ ls.length := by omega
      have hki : (k : Int) ≤ cap := by omega
      have hkj : (k : Int) ≤ ls.length := by omega
      have hmin : min (ls.length : Int) (8 : Int) = (k : Int) := by omega
      rw [hk] at HT
      have HA := Lib.hid (fun Y (h : Below w.heap.size w Y) => tree_any (ls.take k) 8 a cap Y (((hT.takeT hkl).from_ h).mono h.size) (hTab.from h))
      have HB := Lib.hid (fun Y (h : Below w.heap.size w Y) => tree_any (ls.drop k) 8 _ _ Y (((hT.dropT hkl).from_ h).mono h.size) (hTab.from h))
      rw [show (8 : Int) = ((8 : Nat) : Int) from rfl, treeE_yes (by decide) (by decide) (by simp; omega) (all_take9 hall k), List.length_take, Nat.min_eq_left hkl] at HA
      rw [show (8 : Int) = ((8 : Nat) : Int) from rfl, treeE_yes (by decide) (by decide) (by simp; omega) (all_drop9 hall k), List.length_drop] at HB
      have hA : (M.treeT (ls.take k) 8).length = 32 := M.treeT_length _ (all_take9 hall k)
      have hB : (M.treeT (ls.drop k) 8).length = 32 := M.treeT_length _ (all_drop9 hall k)
      generalize M.treeT (ls.take k) 8 = A at *
      generalize M.treeT (ls.drop k) 8 = B at *
      have hsum := M.sum_length
      have HS := Lib.hid (fun Y (h : Below w.heap.size w Y) => sum_any (A ++ B) Y (by simp; omega) (hTab.from h))
      have hslA : ∀ Y, (Instr.slice 39 (.slice a ls.length cap) none (some (.int .i64 (k : Nat))) none).run Tryz.prog Y = .ok (.slice a k cap) Y := fun Y => by go_simp
      have hslB : ∀ Y, (Instr.slice 39 (.slice a ls.length cap) (some (.int .i64 (k : Nat))) none none).run Tryz.prog Y = .ok (.slice (if cap = k then a else a.map (·.add k)) (ls.length - k) (cap - k)) Y := fun Y => by go_simp
      generalize (if cap = k then a else a.map (·.add k)) = ad at *
      clear hT hk hall
      go_enter Tryz.func6, Tryz.ntmps6
      go_wp2_with fail
      refine HW.out.mono ?_
      rintro e w1 ⟨rfl, hb1⟩
      go_wp2_with fail
      refine (HT.out _ hb1).mono ?_
      rintro e w2 ⟨rfl, hb2⟩
      have hw2 := hb1.trans (hb2.mono hb1.size)
      go_wp2_with fail
      refine (HA.out _ hw2).mono ?_
      rintro e w3 ⟨rfl, hb3⟩
      have hw3 := hw2.trans (hb3.mono hw2.size)
      go_wp2_with fail
      refine (HB.out _ hw3).mono ?_
      rintro e w4 ⟨rfl, hb4⟩
      have hw4 := hw3.trans (hb4.mono hw3.size)
      go_wp2_with fail
      refine (HS.out _ hw4).mono ?_
      rintro e w5 ⟨rfl, hb5⟩
      have hw5 := hw4.trans (hb5.mono hw4.size)
      go_wp2_with fail
      go_ret
      exact ⟨rfl, hw5⟩
set_option maxRecDepth 100000 in
set_option maxHeartbeats 4000000 in
theorem halves_4 (ls : List (List UInt8)) (a : Option Addr) (cap X : Nat) (w : World) (hX : X < 256) (hr : X % 5 = 4) (hT : Ts w w.heap.size ls (.slice a ls.length cap)) (hTab : Tab w) :
    Calls Tryz.prog 6 #[.slice a ls.length cap, .int .u8 (X : Nat)] w fun e w' => e = .returned (.bool true) ∧ Below w.heap.size w w' := by
  have hr' : (X : Int) % 5 = 4 := by omega
  have hcap : ls.length ≤ cap := by obtain ⟨_, _, e, hm, _⟩ := hT.slice; injection e with _ _ e3; omega
  have hcm : cap ≤ maxLen := by obtain ⟨_, _, e, _, hm⟩ := hT.slice; injection e with _ _ e3; omega
  have HW := Lib.hid (works9 w hTab)
  have HT := Lib.hid (fun Y (h : Below w.heap.size w Y) => tree_any ls 32 a cap Y ((hT.from_ h).mono h.size) (hTab.from h))
  by_cases hlen : 32 < ls.length
  · have hli : (32 : Int) < ls.length := by omega
    clear HT hT
    go_enter Tryz.func6, Tryz.ntmps6
    go_wp2_with fail
    refine HW.out.mono ?_
    rintro e w1 ⟨rfl, hb1⟩
    go_wp2_with fail
    go_ret
    exact ⟨rfl, hb1⟩
  · have hli : ¬ (32 : Int) < ls.length := by omega
    cases hall : ls.all M.isC with
    | false =>
      rw [treeE_no hall] at HT
      clear hT
      go_enter Tryz.func6, Tryz.ntmps6
      go_wp2_with fail
      refine HW.out.mono ?_
      rintro e w1 ⟨rfl, hb1⟩
      go_wp2_with fail
      refine (HT.out _ hb1).mono ?_
      rintro e w2 ⟨rfl, hb2⟩
      go_wp2_with fail
      go_ret
      exact ⟨rfl, hb1.trans (hb2.mono hb1.size)⟩
    | true =>
      rw [show (32 : Int) = ((32 : Nat) : Int) from rfl, treeE_yes (by decide) (by decide) (by omega) hall, show (32 : Nat) = 2 ^ (4 + 1) from rfl, treeT_halves (r := 4) (by decide) (by omega), show (2 : Nat) ^ 4 = 16 from rfl, show (2 : Nat) ^ (4 + 1) = 32 from rfl] at HT
      obtain ⟨k, hk⟩ : ∃ k, min ls.length 16 = k := ⟨_, rfl⟩
      have hkl : k ≤ ls.length := by omega
      have hki : (k : Int) ≤ cap := by omega
      have hkj : (k : Int) ≤ ls.length := by omega
      have hmin : min (ls.length : Int) (16 : Int) = (k : Int) := by omega
      rw [hk] at HT
      have HA := Lib.hid (fun Y (h : Below w.heap.size w Y) => tree_any (ls.take k) 16 a cap Y (((hT.takeT hkl).from_ h).mono h.size) (hTab.from h))
      have HB := Lib.hid (fun Y (h : Below w.heap.size w Y) => tree_any (ls.drop k) 16 _ _ Y (((hT.dropT hkl).from_ h).mono h.size) (hTab.from h))
      rw [show (16 : Int) = ((16 : Nat) : Int) from rfl, treeE_yes (by decide) (by decide) (by simp; omega) (all_take9 hall k), List.length_take, Nat.min_eq_left hkl] at HA
      rw [show (16 : Int) = ((16 : Nat) : Int) from rfl, treeE_yes (by decide) (by decide) (by simp; omega) (all_drop9 hall k), List.length_drop] at HB
      have hA : (M.treeT (ls.take k) 16).length = 32 := M.treeT_length _ (all_take9 hall k)
      have hB : (M.treeT (ls.drop k) 16).length = 32 := M.treeT_length _ (all_drop9 hall k)
      generalize M.treeT (ls.take k) 16 = A at *
      generalize M.treeT (ls.drop k) 16 = B at *
      have hsum := M.sum_length
      have HS := Lib.hid (fun Y (h : Below w.heap.size w Y) => sum_any (A ++ B) Y (by simp; omega) (hTab.from h))
      have hslA : ∀ Y, (Instr.slice 39 (.slice a ls.length cap) none (some (.int .i64 (k : Nat))) none).run Tryz.prog Y = .ok (.slice a k cap) Y := fun Y => by go_simp
      have hslB : ∀ Y, (Instr.slice 39 (.slice a ls.length cap) (some (.int .i64 (k : Nat))) none none).run Tryz.prog Y = .ok (.slice (if cap = k then a else a.map (·.add k)) (ls.length - k) (cap - k)) Y := fun Y => by go_simp
      generalize (if cap = k then a else a.map (·.add k)) = ad at *
      clear hT hk hall
      go_enter Tryz.func6, Tryz.ntmps6
      go_wp2_with fail
      refine HW.out.mono ?_
      rintro e w1 ⟨rfl, hb1⟩
      go_wp2_with fail
      refine (HT.out _ hb1).mono ?_
      rintro e w2 ⟨rfl, hb2⟩
      have hw2 := hb1.trans (hb2.mono hb1.size)
      go_wp2_with fail
      refine (HA.out _ hw2).mono ?_
      rintro e w3 ⟨rfl, hb3⟩
      have hw3 := hw2.trans (hb3.mono hw2.size)
      go_wp2_with fail
      refine (HB.out _ hw3).mono ?_
      rintro e w4 ⟨rfl, hb4⟩
      have hw4 := hw3.trans (hb4.mono hw3.size)
      go_wp2_with fail
      refine (HS.out _ hw4).mono ?_
      rintro e w5 ⟨rfl, hb5⟩
      have hw5 := hw4.trans (hb5.mono hw4.size)
      go_wp2_with fail
      go_ret
      exact ⟨rfl, hw5⟩
theorem halves_law (ls : List (List UInt8)) (a : Option Addr) (cap : Nat) (x : Int) (w : World) (hx : (Lit.int .u8 x).wf = true) (hT : Ts w w.heap.size ls (.slice a ls.length cap)) (hTab : Tab w) :
    Calls Tryz.prog 6 #[.slice a ls.length cap, .int .u8 x] w fun e w' => e = .returned (.bool true) ∧ Below w.heap.size w w' := by
  have h := bounds_u8 hx
  obtain ⟨X, rfl⟩ := Int.eq_ofNat_of_zero_le h.1
  have h5 : X % 5 = 0 ∨ X % 5 = 1 ∨ X % 5 = 2 ∨ X % 5 = 3 ∨ X % 5 = 4 := by omega
  rcases h5 with h5 | h5 | h5 | h5 | h5
  · exact halves_0 ls a cap X w (by omega) h5 hT hTab
  · exact halves_1 ls a cap X w (by omega) h5 hT hTab
  · exact halves_2 ls a cap X w (by omega) h5 hT hTab
  · exact halves_3 ls a cap X w (by omega) h5 hT hTab
  · exact halves_4 ls a cap X w (by omega) h5 hT hTab
end Go.Proofs.YtgloapcfmlijlaaGreatDoor
namespace Go.Proofs.YtgloapcfmlijlaaGreatDoor
open Go Go.RowKit

theorem string_cells : Tryz.prog.cellsOf 9 = 1 := by kernel_rfl
theorem reach_long : reachBytes ≤ longS := by have := reachBytes_lt; unfold longS; omega

theorem weightsAll_in {H : Type} {P : Program} {e : TypeId} : ∀ {ds : List (DataW H)} {d : DataW H}, d ∈ ds → ∀ n ∈ d.weights P e, n ∈ DataW.weightsAll P e ds
  | d' :: ds, d, h, n, hn => by
    rw [DataW.weightsAll]
    rcases List.mem_cons.1 h with rfl | h
    · exact List.mem_append_left _ hn
    · exact List.mem_append_right _ (weightsAll_in h n hn)

section
variable {H : Type} {enc : TypeId × Value → H} {W : World} {sp : Nat → Bool} {hd : Bool}

set_option maxRecDepth 100000 in
/-- What a slice of texts leads to. -/
theorem open_texts_at (fuel : Nat) (u : Value) (x : DataW H × List MemPlace) (h : DataW.trod enc Tryz.prog W 0 sp hd fuel 39 [u] = some x) (hw : ∀ n ∈ x.1.weights Tryz.prog 39, n ≤ reachBytes) :
    ∃ ls a cap, u = .slice a ls.length cap ∧ Ts W W.heap.size ls (.slice a ls.length cap) ∧ ∀ t ∈ ls, t.length ≤ longS := by
  rcases DataW.trod_slice Tryz.underlying39 h with ⟨hu, _⟩ | ⟨a, len, cap, elems, rest, n, hf, hu, hx, hb, hl, hm, hel, hei, _, _⟩
  · obtain rfl : u = .slice none 0 0 := by simpa using hu
    exact ⟨[], none, 0, rfl, .nil_ (by decide), fun t h => by cases h⟩
  · obtain rfl : u = .slice (some a) len cap := by simpa using hu
    by_cases h0 : len = 0
    · subst h0
      exact ⟨[], some a, cap, rfl, .nil_ hm, fun t h => by cases h⟩
    · have each : ∀ i, i < len → ∃ q : List UInt8, W.cell? (a.add i) = some (.string ⟨q.toArray⟩) ∧ q.length ≤ longS := by
        intro i hi
        have he := hei i hi
        rw [List.getElem?_eq_getElem (by omega)] at he
        obtain ⟨cs, h1, h2⟩ := Option.bind_eq_some_iff.1 he
        rw [string_cells, Nat.mul_one] at h1
        obtain ⟨s, e1, hlit, _⟩ := DataW.trod_string Tryz.underlying9 h2
        have hmem : ∀ k ∈ (elems[i]'(by omega)).1.weights Tryz.prog 9, k ≤ reachBytes := by
          intro k hk
          refine hw k ?_
          rw [hx]
          simp only [DataW.weights, Tryz.underlying39]
          exact List.mem_cons_of_mem _ (List.mem_append_left _ (weightsAll_in (List.mem_map.2 ⟨_, List.getElem_mem _, rfl⟩) k hk))
        rw [hlit] at hmem
        have hsl := hmem s.data.toList.length (by simp [DataW.weights])
        subst e1
        exact ⟨s.data.toList, Go.ChangeShapes.cell_of_cells?_one h1, Nat.le_trans hsl reach_long⟩
      obtain ⟨q, hq⟩ := Go.Deep.choose_lt each
      obtain ⟨b, o, spot⟩ := a
      have hspot : spot = none := by
        have := (hq 0 (by omega)).1
        simpa [Addr.add] using World.cell?_spot this
      subst hspot
      have hbl : b < W.heap.size := World.block_lt_of_cell? W _ ((hq 0 (by omega)).1)
      have hlen : ((List.range len).map q).length = len := by simp
      refine ⟨(List.range len).map q, some ⟨b, o, none⟩, cap, by rw [hlen], .row hbl (by rw [hlen]; exact hl) hm fun i s hi => ?_, fun t ht => ?_⟩
      · have hi' : i < len := by
          have := (List.getElem?_eq_some_iff.1 hi).1
          simpa using this
        simp [hi'] at hi
        subst hi
        have := (hq i hi').1
        unfold Addr.add at this
        by_cases hz : i = 0
        · subst hz; simpa using this
        · simpa [hz] using this
      · obtain ⟨i, hi, rfl⟩ := List.mem_map.1 ht
        exact (hq i (List.mem_range.1 hi)).2

set_option maxRecDepth 100000 in
/-- A slice of texts that comes in. -/
theorem open_texts {r : Reach} {b0 : Nat} {v : Value} {d : DataW H} {p : List MemPlace} (hv : Value.okWide Tryz.prog W r b0 39 v) (h : DataW.Trod enc Tryz.prog W 0 sp hd 39 v d p) (hw : ∀ n ∈ d.weights Tryz.prog 39, n ≤ reachBytes) :
    ∃ ls a cap, v = .slice a ls.length cap ∧ Ts W W.heap.size ls (.slice a ls.length cap) ∧ ∀ t ∈ ls, t.length ≤ longS := by
  obtain ⟨m, hm⟩ := h
  obtain ⟨a, l, c, rfl⟩ := Go.WideShapes.okWide_slice Tryz.underlying39 hv
  exact open_texts_at m _ (d, p) hm hw
end
end Go.Proofs.YtgloapcfmlijlaaGreatDoor
namespace Go.Proofs.YtgloapcfmlijlaaGreatDoor
open Go Go.RowKit Go.ChangeShapes Go.WideShapes Go.ChangeAt

theorem g_turns : Tryz.prog.globalNamed "rescript/keccak.turns" = some 1 := by kernel_rfl
theorem g_numbers : Tryz.prog.globalNamed "rescript/keccak.numbers" = some 0 := by kernel_rfl
theorem t_turns : (Tryz.prog.globals[1]?).map (·.type) = some 157 := by kernel_rfl
theorem t_numbers : (Tryz.prog.globals[0]?).map (·.type) = some 103 := by kernel_rfl
theorem tab_of_laid9 {W : World} (h : laidMetH Tryz.prog [("unicode/utf8.acceptRanges", Rows.laid_unicode_utf8_acceptRanges), ("rescript/keccak.turns", Rows.laid_rescript_keccak_turns), ("rescript/keccak.numbers", Rows.laid_rescript_keccak_numbers), ("unicode/utf8.first", Rows.laid_unicode_utf8_first)] W) : Tab W := by
  rw [MakeChecks.laidMetH_plain _ _ _ (by kernel_rfl)] at h
  have h1 := Lib.tabIs_of_head (k := .i64) (zs := M.offs.map fun n : Nat => (n : Int)) (n := 25) (e := 3) g_turns t_turns (by kernel_rfl) (by kernel_rfl) (by kernel_rfl) (by kernel_rfl) h.tail
  have h2 := Lib.tabIs_of_head (k := .u64) (zs := M.rcs.map fun n : Nat => (n : Int)) (n := 24) (e := 27) g_numbers t_numbers (by kernel_rfl) (by kernel_rfl) (by kernel_rfl) (by kernel_rfl) h.tail.tail
  refine ⟨fun i hi => ?_, fun i hi => ?_⟩
  · have hl : i < M.rcs.length := hi
    rw [h2.cell g_numbers i (by rw [List.length_map]; exact hl)]
    unfold M.gl
    simp [List.getD_eq_getElem?_getD, List.getElem?_eq_getElem hl]
  · have hl : i < M.offs.length := hi
    rw [h1.cell g_turns i (by rw [List.length_map]; exact hl)]
    unfold M.gl
    simp [List.getD_eq_getElem?_getD, List.getElem?_eq_getElem hl]
end Go.Proofs.YtgloapcfmlijlaaGreatDoor
namespace Go.Proofs.YtgloapcfmlijlaaGreatDoor
open Go.ChangeShapes Go.WideShapes Go.ChangeAt Go.RowKit
open Go.ChangeMaps (open_string shut_string)

namespace MerkleHalves
theorem own : ownKnob Tryz.prog.godebug = none := by kernel_rfl
theorem laidOut : laidOutB Tryz.prog = true := by kernel_rfl

set_option maxRecDepth 100000 in
theorem lifted (os : Os) (started : os.Started) (H : Type) (enc : TypeId × Value → H) :
    ReturnsInHanded {} Tryz.checked os 6 .any (fun w args => (Rows.merkleHalvesSpec.pre enc Tryz.prog Tryz.f6 Rows.merkleHalvesRow.domain false w args ∧ laidMetH Tryz.prog Rows.merkleHalvesRow.laid w) ∧ sizedMet enc Tryz.prog Tryz.f6 (OpenSpec.ofChange Rows.merkleHalvesSpec) false w args)
      (Rows.merkleHalvesSpec.post enc Tryz.prog Tryz.f6 false true false false) := by
  refine returnsInHanded_of_change_and (C := Tryz.checked) (X := fun w _ => laidMetH Tryz.prog Rows.merkleHalvesRow.laid w) (fun _ _ _ hh h => h.of_heap hh) own started (by kernel_rfl) Tryz.func6
    (ChangeSpec.witness_shaped (enc := enc) (C := Tryz.checked) (os := os) (X := fun w _ => laidMetH Tryz.prog Rows.merkleHalvesRow.laid w) false (World.laidAll Tryz.prog os Rows.merkleHalvesRow.laid) #[.slice none 0 0, .int .u8 0] 8 (World.laidAll_os _ _ _)
      (World.shaped_of_ZipB (by kernel_rfl) (by kernel_rfl)) (by kernel_rfl) (by kernel_rfl) (by kernel_rfl)
      (by rw [MakeChecks.laidMetH_plain _ _ _ (by kernel_rfl)]; exact laidMet_laidAll _ (by kernel_rfl) (by kernel_rfl))) ?_
  intro W base args ds gs before hval0 hW _ hWt hLaid _
  have hval : ∀ (j : Nat) t v, Tryz.f6.params[j]? = some t → args[j]? = some v → Value.okWide Tryz.prog W .any base t v := hval0
  have hW' := hW
  obtain ⟨p, q, hA0, hV, rfl, hfz, hnd⟩ := hW
  have hA : DataW.TrodAll enc Tryz.prog W 0 (fun _ => true) true Tryz.f6.params.toList args.toList ds p := hA0
  rw [Tryz.params6] at hA hval hWt
  obtain ⟨v0, vs0, d0, ds0, p0, q0, hargs, rfl, rfl, h0, r0⟩ := trodAll_cons hA
  obtain ⟨v1, vs1, d1, ds1, p1, q1, rfl, rfl, rfl, h1, r1⟩ := trodAll_cons r0
  obtain ⟨rfl, rfl, rfl⟩ := trodAll_nil r1
  obtain rfl : args = #[v0, v1] := by cases args; simp_all
  obtain ⟨rfl, rfl⟩ := trodVars_none hV
  have k0 := h0
  have lt0 : ∀ x ∈ p0, x.block < W.heap.size := by obtain ⟨m, hm⟩ := k0; exact DataW.trod_lt m _ _ _ hm
  have k1 := h1
  have lt1 : ∀ x ∈ p1, x.block < W.heap.size := by obtain ⟨m, hm⟩ := k1; exact DataW.trod_lt m _ _ _ hm
  obtain ⟨ls0, a0, cap0, rfl, hL0, hs0⟩ := open_texts (hval 0 39 v0 rfl rfl) h0 (fun n hn => by have := List.all_eq_true.1 hWt n (DataW.weights_mem_each (j := 0) rfl rfl n hn); simpa using this)
  obtain ⟨x1, rfl, _, _, w1⟩ := open_int Tryz.underlying5 (hval 1 5 v1 rfl rfl) h1
  clear hA0 hval0
  refine (halves_law ls0 a0 cap0 x1 W w1 hL0 (tab_of_laid9 hLaid)).mono fun e W' ⟨he, bel⟩ => ?_
  subst he
  exact ⟨_, rfl, _, _, _, [], _, [], hW', trodAll_mk1 (shut_bool Tryz.underlying4 _), (trodAll_cons_mk (Below.trod laidOut (by kernel_rfl) (of_decide_eq_true (by kernel_rfl)) k0 bel lt0) (trodAll_cons_mk (Below.trod laidOut (by kernel_rfl) (of_decide_eq_true (by kernel_rfl)) k1 bel lt1) trodAll_mk0)), rfl, bel.frame _, fun h => by cases h⟩

theorem over : Rows.merkleHalvesRow.holds Tryz.pinned (OpenSpec.ofChange Rows.merkleHalvesSpec) :=
  OpenClaim.holds_of_wide 6 Tryz.f6 rfl rfl rfl rfl rfl rfl rfl ⟨rfl, rfl, rfl, rfl, rfl⟩ rfl rfl rfl rfl rfl (by kernel_rfl) Tryz.func6 (by kernel_rfl)
    (of_decide_eq_true (by kernel_rfl)) (by unfold Func.isWrapper; first | (rw [if_pos (by decide +kernel)]; kernel_rfl) | (rw [if_neg (by decide +kernel)]; exact ⟨rfl, rfl⟩))
    (fun os started H enc _ => lifted os started H enc)
end MerkleHalves

theorem merkleHalves_card : Rows.MerkleHalvesCardSaid :=
  Claim7.holds_tied_plain_at .later [] [.data, .data, .data, .pinned] true Rows.merkleHalvesCard.stood.harness true
    MerkleHalves.over (fun _ h => by cases h) (by kernel_rfl) (fun _ h => by cases h) merkleHalves_row_tie rfl ⟨rfl, rfl⟩ (by kernel_rfl) rfl
    (fun f fn hf hfn => by
      obtain rfl : f = 6 := Option.some.inj ((show Tryz.prog.funcNamed "rescript/rescriptlaw09.MerkleHalves" = some 6 by kernel_rfl).symm.trans hf) |>.symm
      obtain rfl : fn = Tryz.f6 := (Option.some.inj (Tryz.func6.symm.trans hfn)).symm
      exact ⟨by kernel_rfl, fun j t ht => by
        rw [Tryz.params6] at ht
        have hm : t ∈ [39, 5] := by simpa using Array.mem_of_getElem? ht
        have hall : ([39, 5].all fun u => !Tryz.prog.wantsStandIn u) = true := by kernel_rfl
        exact (show Tryz.prog.wantsStandIn t = false by simpa using List.all_eq_true.1 hall t hm)⟩)
    (by kernel_rfl)
#print axioms merkleHalves_card
end Go.Proofs.YtgloapcfmlijlaaGreatDoor
