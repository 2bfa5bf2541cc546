/- The reference's Few, of a receipt. -/
import Derived.Test.YtihiacbhdcahkaaGreatDoorH29
namespace Go.Proofs.YtihiacbhdcahkaaGreatDoor
open Go Go.RowKit Go.Lib
attribute [local go_sem] Oper.semAt_some

/-- A log that is looked at. -/
def M.fewG (g : M.Lg) : Prop := ¬ (300 < g.data.length ∧ g.data.length ≤ 4096) ∧ g.topics.length ≤ 10 ∧ g.addr.length ≤ 100 ∧ ∀ t ∈ g.topics, t.length ≤ 100
def M.fewX (ls : List M.Lg) : Prop := ls.length ≤ 20 ∧ ∀ g ∈ ls, M.fewG g
theorem M.fewX_few {ls : List M.Lg} (h : M.fewX ls) : FewL ls := ⟨by have := h.1; omega, fun g hg => by have := (h.2 g hg).2.1; omega⟩
theorem M.fewG_take {P : M.Lg → Prop} {ls : List M.Lg} {k : Nat} {g : M.Lg} (h : ∀ x ∈ ls.take k, P x) (hk : ls[k]? = some g) (hg : P g) : ∀ x ∈ ls.take (k + 1), P x := by
  intro x hx
  rw [List.take_add_one, hk] at hx
  rcases List.mem_append.1 hx with hx | hx
  · exact h x hx
  · rcases (by simpa using hx : x = g) with rfl
    exact hg
theorem M.take_all {P : List UInt8 → Prop} {ls : List (List UInt8)} {k : Nat} {g : List UInt8} (h : ∀ x ∈ ls.take k, P x) (hk : ls[k]? = some g) (hg : P g) : ∀ x ∈ ls.take (k + 1), P x := by
  intro x hx
  rw [List.take_add_one, hk] at hx
  rcases List.mem_append.1 hx with hx | hx
  · exact h x hx
  · rcases (by simpa using hx : x = g) with rfl
    exact hg
def FewPost (ls : List M.Lg) (e : Ending) : Prop := ∃ q, e = .returned (.bool q) ∧ (q = true → M.fewX ls)
theorem FewPost.no (ls : List M.Lg) : FewPost ls (.returned (.bool false)) := ⟨_, rfl, fun e => by cases e⟩
set_option maxRecDepth 100000 in
set_option maxHeartbeats 8000000 in
theorem rfew_any (k : Int) (st : Bool) (ga : Nat) (ls : List M.Lg) (fu : Bool) (no ve : Nat) (a : Option Addr) (cap : Nat) (w : World) (hL : Ls w w.heap.size ls (.slice a ls.length cap)) :
    Calls Tryz.prog 9 #[.agg #[.int .i64 k, .bool st, .int .u64 (ga : Nat), .slice a ls.length cap, .bool fu, .int .u64 (no : Nat), .int .u64 (ve : Nat)]] w fun e w' => FewPost ls e ∧ Below w.heap.size w w' := by
  obtain ⟨h, hh⟩ : ∃ h, w.heap.size = h := ⟨_, rfl⟩
  obtain ⟨w0, hw0⟩ : ∃ w0, w.alloc (.cells #[.int .i64 k, .bool st, .int .u64 (ga : Nat), .slice a ls.length cap, .bool fu, .int .u64 (no : Nat), .int .u64 (ve : Nat)] 25) = w0 := ⟨_, rfl⟩
  have hb0 : Below w.heap.size w w0 := by rw [← hw0]; exact (Below.refl _ _).alloc (Nat.le_refl _) _
  have hbx := B7.new w (.int .i64 k) (.bool st) (.int .u64 (ga : Nat)) (.slice a ls.length cap) (.bool fu) (.int .u64 (no : Nat)) (.int .u64 (ve : Nat)) 25
  rw [hw0, hh] at hbx
  have b3 := hbx.c3
  have HL := Lib.hid (hL.kept hb0)
  have HB2 := Lib.hid hb0
  rw [hh] at hb0
  have HB := Lib.hid hb0
  have HW := Lib.hid hw0
  clear hw0 hb0 hbx hL
  by_cases h20 : 20 < ls.length
  · have h20' : (20 : Int) < (ls.length : Nat) := by omega
    go_enter Tryz.func9, Tryz.ntmps9
    go_wp2_with (first | rw [HW.out] | rw [hh])
    go_ret
    exact ⟨.no ls, HB.out⟩
  · have h20' : ¬ (20 : Int) < (ls.length : Nat) := by omega
    go_enter Tryz.func9, Tryz.ntmps9
    go_wp2_with (first | rw [HW.out] | rw [hh])
    go_loopw [3] (fun i wr => ∃ n : Nat, n ≤ ls.length ∧ i = .int .i64 n ∧ wr = w0 ∧ ∀ g ∈ ls.take n, M.fewG g) (fun i _ => ls.length - (RowKit.intOf i).toNat)
    case atStart => exact ⟨0, Nat.zero_le _, rfl, rfl, by simp⟩
    case round =>
      obtain ⟨n, hn, rfl, rfl, hG⟩ := hrel
      by_cases hlt : n < ls.length
      · have hlti : (n : Int) < ls.length := by omega
        have hn9 : n < 20 := by omega
        obtain ⟨q, o, g, ta, tc, rfl, hq, hg, c0, c1, c2, hT⟩ := HL.out.at_ hlt
        have HT := Lib.hid hT
        have HGt := Lib.hid hG
        have HGn := Lib.hid hg
        clear hT hG hg
        obtain ⟨ad, tp, dt⟩ := g
        dsimp only at c0 c1 c2 HT
        by_cases h3 : 300 < dt.length
        · have h3' : (300 : Int) < (dt.length : Nat) := by omega
          by_cases h4 : dt.length ≤ 4096
          · have h4' : ((dt.length : Nat) : Int) ≤ 4096 := by omega
            go_wp2_with fail
            go_ret
            exact ⟨.no ls, by first | exact HB.out | exact HB2.out⟩
          · have h4' : ¬ ((dt.length : Nat) : Int) ≤ 4096 := by omega
            by_cases ht : 10 < tp.length
            · have ht' : (10 : Int) < (tp.length : Nat) := by omega
              go_wp2_with fail
              go_ret
              exact ⟨.no ls, by first | exact HB.out | exact HB2.out⟩
            · have ht' : ¬ (10 : Int) < (tp.length : Nat) := by omega
              by_cases ha : 100 < ad.length
              · have ha' : (100 : Int) < (ad.length : Nat) := by omega
                go_wp2_with fail
                go_ret
                exact ⟨.no ls, by first | exact HB.out | exact HB2.out⟩
              · have ha' : ¬ (100 : Int) < (ad.length : Nat) := by omega
                go_wp2_with fail
                go_loopw [4] (fun i wi => ∃ m : Nat, m ≤ tp.length ∧ i = .int .i64 m ∧ wi = wr ∧ ∀ t ∈ tp.take m, t.length ≤ 100) (fun i _ => tp.length - (RowKit.intOf i).toNat)
                case atStart => exact ⟨0, Nat.zero_le _, rfl, rfl, by simp⟩
                case round =>
                  obtain ⟨m, hm, rfl, rfl, hK⟩ := hrel
                  by_cases hmt : m < tp.length
                  · have hmti : (m : Int) < tp.length := by omega
                    have hm9 : m < 10 := by omega
                    obtain ⟨tb, tq, s, rfl, _, hs, d0⟩ := HT.out.at_ hmt
                    have HK := Lib.hid hK
                    have HS := Lib.hid hs
                    clear hK hs
                    by_cases hl : 100 < s.length
                    · have hl' : (100 : Int) < (s.length : Nat) := by omega
                      go_wp2_with fail
                      go_ret
                      exact ⟨.no ls, by first | exact HB.out | exact HB2.out⟩

                    · have hl' : ¬ (100 : Int) < (s.length : Nat) := by omega
                      go_wp2_with fail
                      go_roundw
                      case rel => exact ⟨m + 1, by omega, by simp, by first | rfl | trivial, M.take_all HK.out HS.out (by omega)⟩
                      case measure => simp [RowKit.intOf]; omega
                  · obtain rfl : m = tp.length := by omega
                    rw [List.take_length] at hK
                    go_wp2_with fail
                    go_roundw
                    case rel => exact ⟨n + 1, by omega, by simp, by first | rfl | trivial, M.fewG_take HGt.out HGn.out ⟨fun x => h4 x.2, Nat.not_lt.1 ht, Nat.not_lt.1 ha, hK⟩⟩
                    case measure => simp [RowKit.intOf]; omega
        · have h3' : ¬ (300 : Int) < (dt.length : Nat) := by omega
          by_cases ht : 10 < tp.length
          · have ht' : (10 : Int) < (tp.length : Nat) := by omega
            go_wp2_with fail
            go_ret
            exact ⟨.no ls, by first | exact HB.out | exact HB2.out⟩
          · have ht' : ¬ (10 : Int) < (tp.length : Nat) := by omega
            by_cases ha : 100 < ad.length
            · have ha' : (100 : Int) < (ad.length : Nat) := by omega
              go_wp2_with fail
              go_ret
              exact ⟨.no ls, by first | exact HB.out | exact HB2.out⟩
            · have ha' : ¬ (100 : Int) < (ad.length : Nat) := by omega
              go_wp2_with fail
              go_loopw [4] (fun i wi => ∃ m : Nat, m ≤ tp.length ∧ i = .int .i64 m ∧ wi = wr ∧ ∀ t ∈ tp.take m, t.length ≤ 100) (fun i _ => tp.length - (RowKit.intOf i).toNat)
              case atStart => exact ⟨0, Nat.zero_le _, rfl, rfl, by simp⟩
              case round =>
                obtain ⟨m, hm, rfl, rfl, hK⟩ := hrel
                by_cases hmt : m < tp.length
                · have hmti : (m : Int) < tp.length := by omega
                  have hm9 : m < 10 := by omega
                  obtain ⟨tb, tq, s, rfl, _, hs, d0⟩ := HT.out.at_ hmt
                  have HK := Lib.hid hK
                  have HS := Lib.hid hs
                  clear hK hs
                  by_cases hl : 100 < s.length
                  · have hl' : (100 : Int) < (s.length : Nat) := by omega
                    go_wp2_with fail
                    go_ret
                    exact ⟨.no ls, by first | exact HB.out | exact HB2.out⟩

                  · have hl' : ¬ (100 : Int) < (s.length : Nat) := by omega
                    go_wp2_with fail
                    go_roundw
                    case rel => exact ⟨m + 1, by omega, by simp, by first | rfl | trivial, M.take_all HK.out HS.out (by omega)⟩
                    case measure => simp [RowKit.intOf]; omega
                · obtain rfl : m = tp.length := by omega
                  rw [List.take_length] at hK
                  go_wp2_with fail
                  go_roundw
                  case rel => exact ⟨n + 1, by omega, by simp, by first | rfl | trivial, M.fewG_take HGt.out HGn.out ⟨fun x => h3 x.1, Nat.not_lt.1 ht, Nat.not_lt.1 ha, hK⟩⟩
                  case measure => simp [RowKit.intOf]; omega
      · obtain rfl : n = ls.length := by omega
        rw [List.take_length] at hG
        go_wp2_with fail
        go_ret
        exact ⟨⟨_, rfl, fun _ => ⟨by omega, hG⟩⟩, (by first | exact HB.out | exact HB2.out)⟩
end Go.Proofs.YtihiacbhdcahkaaGreatDoor
