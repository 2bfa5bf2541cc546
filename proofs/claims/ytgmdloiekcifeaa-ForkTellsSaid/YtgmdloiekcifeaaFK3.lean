/- fork.Check, fork.begun, fork.Active, fork.From. -/
import Derived.Test.YtgmdloiekcifeaaFK2
import Derived.Shelf.Abstract
namespace Go.Proofs.Ytgmdloiekcifeaa
open Go Go.RowKit Go.Lib

set_option maxRecDepth 100000 in
set_option maxHeartbeats 4000000 in
theorem fcheck_any (xs : List Int) (a : Option Addr) (cap : Nat) (w : World) (hN : Ns w w.heap.size xs (.slice a xs.length cap)) :
    Calls Try.prog 17 #[sch (.slice a xs.length cap)] w fun e w' => e = .returned (.int .i64 (M.chkE xs)) ∧ Below w.heap.size w w' := by
  rcases M.chkE_cases xs with ⟨hE, h1, h6, hs⟩ | ⟨hE, h⟩ | ⟨hE, h1, h6, hs⟩
  · obtain ⟨b, o, rfl, hb, hc⟩ := hN.cells h1
    have HS := Lib.hid (fun (W : World) (h : Below w.heap.size w W) => sorted_u (M.gi xs) b o xs.length cap W h1 h6 (Nat.lt_of_lt_of_le hb h.size) (fun j hj => (h.cell (p := ⟨b, o + j, none⟩) hb).trans (hc j hj)))
    rw [show ((List.range (xs.length - 1)).all fun i => decide (M.gi xs i ≤ M.gi xs (i + 1))) = true from hs] at HS
    rw [hE]
    clear hs hE hc hN
    go_enter Try.func17, Try.ntmps17
    go_wp2_with fail
    refine (HS.out _ (by (repeat (first | exact Below.refl _ _ | refine Below.drew ?_ | refine Below.alloc ?_ (by first | omega | (simp; omega) | simp) _ | refine Below.setCell ?_ (by first | omega | (simp; omega) | simp) _)))).mono ?_
    rintro e w1 ⟨rfl, hb1⟩
    go_wp2_with fail
    go_ret
    exact ⟨rfl, (Below.alloc (Below.refl _ w) (Nat.le_refl _) _).trans (hb1.mono (by simp))⟩
  · rw [hE]
    clear hE hN
    rcases h with h | h
    · go_enter Try.func17, Try.ntmps17
      go_wp2_with fail
      go_ret
      exact ⟨rfl, by (repeat (first | exact Below.refl _ _ | refine Below.drew ?_ | refine Below.alloc ?_ (by first | omega | (simp; omega) | simp) _ | refine Below.setCell ?_ (by first | omega | (simp; omega) | simp) _))⟩
    · have h1 : ¬ xs.length < 1 := by omega
      go_enter Try.func17, Try.ntmps17
      go_wp2_with fail
      go_ret
      exact ⟨rfl, by (repeat (first | exact Below.refl _ _ | refine Below.drew ?_ | refine Below.alloc ?_ (by first | omega | (simp; omega) | simp) _ | refine Below.setCell ?_ (by first | omega | (simp; omega) | simp) _))⟩
  · obtain ⟨b, o, rfl, hb, hc⟩ := hN.cells h1
    have HS := Lib.hid (fun (W : World) (h : Below w.heap.size w W) => sorted_u (M.gi xs) b o xs.length cap W h1 h6 (Nat.lt_of_lt_of_le hb h.size) (fun j hj => (h.cell (p := ⟨b, o + j, none⟩) hb).trans (hc j hj)))
    rw [show ((List.range (xs.length - 1)).all fun i => decide (M.gi xs i ≤ M.gi xs (i + 1))) = false from hs] at HS
    rw [hE]
    clear hs hE hc hN
    go_enter Try.func17, Try.ntmps17
    go_wp2_with fail
    refine (HS.out _ (by (repeat (first | exact Below.refl _ _ | refine Below.drew ?_ | refine Below.alloc ?_ (by first | omega | (simp; omega) | simp) _ | refine Below.setCell ?_ (by first | omega | (simp; omega) | simp) _)))).mono ?_
    rintro e w1 ⟨rfl, hb1⟩
    go_wp2_with fail
    go_ret
    exact ⟨rfl, (Below.alloc (Below.refl _ w) (Nat.le_refl _) _).trans (hb1.mono (by simp))⟩

set_option maxRecDepth 100000 in
set_option maxHeartbeats 4000000 in
theorem later_any (xs : List Int) (b o cap bs bt : Nat) (t : Int) (i : Nat) (w : World) (hi : i < xs.length) (_hl : xs.length ≤ 6) (hb : w.cell? ⟨b, o + i, none⟩ = some (.int .u64 (M.gi xs i)))
    (hs : w.cell? ⟨bs, 0, none⟩ = some (.slice (some ⟨b, o, none⟩) xs.length cap)) (ht : w.cell? ⟨bt, 0, none⟩ = some (.int .u64 t)) :
    Calls Try.prog 22 #[.int .i64 (i : Nat), .pointer (some ⟨bs, 0, none⟩), .pointer (some ⟨bt, 0, none⟩)] w fun e w' => e = .returned (.bool (decide (t < M.gi xs i))) ∧ Below w.heap.size w w' := by
  have mixed : Try.prog.follows .mixedOrders = true := by kernel_rfl
  have hi' : (i : Int) < (xs.length : Int) := by omega
  go_enter Try.func22, Try.ntmps22
  go_wp2_with fail
  go_quiet (fail)
  go_wp2_with fail
  go_ret
  exact ⟨by simp, ⟨rfl, rfl, rfl, Nat.le_refl _, fun _ _ => rfl⟩⟩

set_option maxRecDepth 100000 in
set_option maxHeartbeats 4000000 in
/-- sort.Search, where the closure tells false of all places below r, and true of the others. -/
theorem search_any (cb : Array Value) (n r : Nat) (w : World) (hn : n ≤ 6) (hr : r ≤ n)
    (hf : ∀ (W : World) (i : Nat), Below w.heap.size w W → i < n → Calls Try.prog 22 (#[.int .i64 (i : Nat)] ++ cb) W fun e w' => e = .returned (.bool (decide (r ≤ i))) ∧ Below W.heap.size W w') :
    Calls Try.prog 21 #[.int .i64 (n : Nat), .func (.func 22) #[] cb] w fun e w' => e = .returned (.int .i64 (r : Nat)) ∧ Below w.heap.size w w' := by
  have HF := Lib.hid hf
  have eg : ∀ args w, (callFunc 22 args).run Try.prog w = .ok (.enter 22 args) w := enters_of Try.func22 (by kernel_rfl) rfl
  clear hf
  go_enter Try.func21, Try.ntmps21
  go_wp2_with fail
  go_loopw [5, 6] (fun x y wr => ∃ lo hi : Nat, x = .int .i64 (lo : Nat) ∧ y = .int .i64 (hi : Nat) ∧ lo ≤ r ∧ r ≤ hi ∧ hi ≤ n ∧ Below w.heap.size w wr) (fun x y _ => (RowKit.intOf y).toNat - (RowKit.intOf x).toNat)
  case atStart => exact ⟨0, n, rfl, rfl, Nat.zero_le _, hr, Nat.le_refl _, Below.refl _ _⟩
  case round =>
    obtain ⟨lo, hi, rfl, rfl, hlo, hhi, hin, hW⟩ := hrel
    by_cases hlt : lo < hi
    · obtain ⟨h, hh⟩ : ∃ h, (lo + hi) / 2 = h := ⟨_, rfl⟩
      have hz : ((lo : Int) + (hi : Int)) / 2 = (h : Int) := by omega
      have hc := Lib.hid (HF.out wr h hW (by omega))
      have h1 : lo ≤ h := by omega
      have h2 : h < hi := by omega
      clear hh
      by_cases hp : r ≤ h
      · rw [show decide (r ≤ h) = true from decide_eq_true hp] at hc
        go_wp2_with (go_at_fn 22; (try rw [hz]); refine hc.out.mono ?_; rintro e w' ⟨rfl, hb'⟩)
        exact ⟨⟨lo, h, rfl, rfl, hlo, hp, by omega, hW.trans (hb'.mono hW.size)⟩, by simp [RowKit.intOf]; omega⟩
      · rw [show decide (r ≤ h) = false from decide_eq_false hp] at hc
        go_wp2_with (go_at_fn 22; (try rw [hz]); refine hc.out.mono ?_; rintro e w' ⟨rfl, hb'⟩)
        exact ⟨⟨h + 1, hi, by simp, rfl, by omega, hhi, hin, hW.trans (hb'.mono hW.size)⟩, by simp [RowKit.intOf]; omega⟩
    · obtain rfl : lo = r := by omega
      go_wp2_with fail
      go_ret
      exact ⟨rfl, hW⟩

/-- How many forks have begun, of a schedule that may be. -/
theorem begun_any (xs : List Int) (b o cap : Nat) (t : Int) (w : World) (h6 : xs.length ≤ 6) (hs : M.srt xs = true) (hb : b < w.heap.size) (hc : ∀ i, i < xs.length → w.cell? ⟨b, o + i, none⟩ = some (.int .u64 (M.gi xs i))) :
    Calls Try.prog 18 #[sch (.slice (some ⟨b, o, none⟩) xs.length cap), .int .u64 t] w fun e w' => e = .returned (.int .i64 (M.beg xs t : Nat)) ∧ Below w.heap.size w w' := by
  obtain ⟨w0, hw0⟩ : ∃ w0, (w.alloc (.cells #[.slice (some ⟨b, o, none⟩) xs.length cap] 24)).alloc (.cells #[.int .u64 t] 25) = w0 := ⟨_, rfl⟩
  have hsz : w0.heap.size = w.heap.size + 1 + 1 := by rw [← hw0]; simp
  have hb0 : Below w.heap.size w w0 := by rw [← hw0]; (repeat (first | exact Below.refl _ _ | refine Below.drew ?_ | refine Below.alloc ?_ (by first | omega | (simp; omega) | simp) _ | refine Below.setCell ?_ (by first | omega | (simp; omega) | simp) _))
  have ca : w0.cell? ⟨w.heap.size, 0, none⟩ = some (.slice (some ⟨b, o, none⟩) xs.length cap) := by
    rw [← hw0]
    refine (((Below.refl (w.heap.size + 1) _).alloc (by simp) _).cell (p := ⟨w.heap.size, 0, none⟩) (by show w.heap.size < _; omega)).trans ?_
    rw [World.cell?_alloc_at _ _ _ _ (by simp)]; rfl
  have ct : w0.cell? ⟨w.heap.size + 1, 0, none⟩ = some (.int .u64 t) := by
    rw [← hw0, World.cell?_alloc_at _ _ _ _ (by simp)]; rfl
  have HS := Lib.hid (search_any #[.pointer (some ⟨w.heap.size, 0, none⟩), .pointer (some ⟨w.heap.size + 1, 0, none⟩)] xs.length (M.beg xs t) w0 h6 (M.beg_le xs t) fun W i hW hi => by
    have := later_any xs b o cap w.heap.size (w.heap.size + 1) t i W hi h6 ((hW.cell (p := ⟨b, o + i, none⟩) (by show b < _; omega)).trans ((hb0.cell (p := ⟨b, o + i, none⟩) hb).trans (hc i hi)))
      ((hW.cell (p := ⟨w.heap.size, 0, none⟩) (by show w.heap.size < _; omega)).trans ca) ((hW.cell (p := ⟨w.heap.size + 1, 0, none⟩) (by show w.heap.size + 1 < _; omega)).trans ct)
    rwa [show decide (t < M.gi xs i) = decide (M.beg xs t ≤ i) from decide_eq_decide.2 (M.beg_iff hs t hi)] at this)
  have HW := Lib.hid hw0
  have HB := Lib.hid hb0
  have HZ := Lib.hid hsz
  clear hc hs hb ca ct hb0 hsz hw0
  generalize M.beg xs t = r at *
  go_enter Try.func18, Try.ntmps18
  go_wp2_with (rw [HW.out]; refine HS.out.mono ?_; rintro e w1 ⟨rfl, hb1⟩)
  go_ret
  exact ⟨rfl, HB.out.trans (hb1.mono HB.out.size)⟩
end Go.Proofs.Ytgmdloiekcifeaa
