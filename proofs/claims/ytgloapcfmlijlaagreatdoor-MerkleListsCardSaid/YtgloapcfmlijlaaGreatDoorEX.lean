/- What the laws of lists and of bytes want of the texts before. -/
import Derived.Test.YtgloapcfmlijlaaGreatDoorH17
import Derived.Lib.Strings
namespace Go.Proofs.YtgloapcfmlijlaaGreatDoor.M
/-- Whatever four parts there are, they are some number's. -/
theorem some_number {a b c d : Int} (ha : 0 ≤ a) (ha' : a < 18446744073709551616) (hb : 0 ≤ b) (hb' : b < 18446744073709551616) (hc : 0 ≤ c) (hc' : c < 18446744073709551616) (hd : 0 ≤ d) (hd' : d < 18446744073709551616) :
    ∃ N, In N ∧ pt 0 N = a ∧ pt 1 N = b ∧ pt 2 N = c ∧ pt 3 N = d := by
  refine ⟨(a + 18446744073709551616 * b + 340282366920938463463374607431768211456 * c + 6277101735386680763835789423207666416102355444464034512896 * d).toNat, by unfold In; omega, parts ha ha' hb hb' hc hc' hd hd' (by omega)⟩

end Go.Proofs.YtgloapcfmlijlaaGreatDoor.M
namespace Go.Proofs.YtgloapcfmlijlaaGreatDoor.M
open Go
mutual
def sameV : Va → Va → Bool
  | .mk a b c d, .mk a' b' c' d' => a == a' && d == d' && b == b' && (c.length == c'.length && sameVs c c')
def sameVs : List Va → List Va → Bool
  | v :: vs, u :: us => sameV v u && sameVs vs us
  | _, _ => true
end

end Go.Proofs.YtgloapcfmlijlaaGreatDoor.M
namespace Go.Proofs.YtgloapcfmlijlaaGreatDoor.M
open Go
theorem cntTs_append (xs ys : List Ty) : cntTs (xs ++ ys) = cntTs xs + cntTs ys := by
  induction xs with
  | nil => simp [cntTs]
  | cons x xs ih => rw [List.cons_append, cntTs, cntTs, ih, Nat.add_assoc]
theorem cntTs_next {xs : List Ty} {k : Nat} {x : Ty} (h : xs[k]? = some x) : cntTs (xs.take (k + 1)) = cntTs (xs.take k) + cntT x := by
  rw [row_next h, cntTs_append]; simp [cntTs]
theorem cntVs_append (xs ys : List Va) : cntVs (xs ++ ys) = cntVs xs + cntVs ys := by
  induction xs with
  | nil => simp [cntVs]
  | cons x xs ih => rw [List.cons_append, cntVs, cntVs, ih, Nat.add_assoc]
theorem cntVs_next {xs : List Va} {k : Nat} {x : Va} (h : xs[k]? = some x) : cntVs (xs.take (k + 1)) = cntVs (xs.take k) + cntV x := by
  rw [row_next h, cntVs_append]; simp [cntVs]
end Go.Proofs.YtgloapcfmlijlaaGreatDoor.M
namespace Go.Proofs.YtgloapcfmlijlaaGreatDoor.M
open Go
/-- What is read of at most 8 bytes: the number, and the error's. -/
def ub (l : List UInt8) : Nat × Nat := if 8 < l.length then (0, 5) else if Lib.hasPrefix l [0] then (0, 8) else (dg l, 0)
end Go.Proofs.YtgloapcfmlijlaaGreatDoor.M
namespace Go.Proofs.YtgloapcfmlijlaaGreatDoor.M
open Go
/-- Get: the value, and the error. -/
def getT (t : Ty) (s : List UInt8) : Va × Nat := if chkT 0 t ≠ 0 then (noV, chkT 0 t) else if 65536 < s.length then (noV, 5) else getV t s

end Go.Proofs.YtgloapcfmlijlaaGreatDoor.M
namespace Go.Proofs.YtgloapcfmlijlaaGreatDoor.M
open Go
mutual
theorem same_eq : ∀ v w : Va, sameV v w = true ↔ v = w
  | .mk a b c d, .mk a' b' c' d' => by
    rw [sameV]
    simp only [Bool.and_eq_true, beq_iff_eq]
    constructor
    · rintro ⟨⟨⟨rfl, rfl⟩, rfl⟩, hl, h⟩
      rw [(sames_eq c c' hl).1 h]
    · intro h
      cases h
      exact ⟨⟨⟨rfl, rfl⟩, rfl⟩, rfl, (sames_eq c c rfl).2 rfl⟩
theorem sames_eq : ∀ vs ws : List Va, vs.length = ws.length → (sameVs vs ws = true ↔ vs = ws)
  | [], [], _ => by simp [sameVs]
  | [], _ :: _, h => by simp at h
  | _ :: _, [], h => by simp at h
  | v :: vs, w :: ws, h => by
    rw [sameVs]
    simp only [Bool.and_eq_true]
    rw [same_eq v w, sames_eq vs ws (by simpa using h)]
    simp
end

/-- What is put is got again. -/
theorem ssz_back {t : Ty} {v : Va} (hi : inV v) (h : (putT t v).2 = 0) : getT t (putT t v).1 = (v, 0) ∧ (fixedT t = true → (putT t v).1.length = sizeT t) := by
  unfold putT at h ⊢
  by_cases h1 : fitsV t v = 0
  · rw [if_neg (by simp [h1])] at h ⊢
    by_cases h2 : 65536 < (putV t v).length
    · rw [if_pos h2] at h; cases h
    · rw [if_neg h2]
      unfold fitsV at h1
      by_cases hc : chkT 0 t = 0
      · rw [if_pos hc] at h1
        have hg := good t ⟨0, hc⟩
        refine ⟨?_, fun hf => ?_⟩
        · unfold getT
          rw [if_neg (by simp [hc]), if_neg (by simpa using h2)]
          exact hg.put v h1 hi (by omega)
        · unfold fixedT at hf
          rw [if_pos hc] at hf
          unfold sizeT fixedT
          rw [if_pos hc, if_pos hf]
          exact hg.size hf v h1 hi
      · rw [if_neg hc] at h1; exact absurd h1 hc
  · rw [if_pos h1] at h; exact absurd h h1
/-- No two values of a type have the same bytes. -/
theorem ssz_apart {t : Ty} {v w : Va} (hv : inV v) (hw : inV w) (h1 : (putT t v).2 = 0) (h2 : (putT t w).2 = 0) : ((putT t v).1 == (putT t w).1) = sameV v w := by
  have e1 := (ssz_back hv h1).1
  have e2 := (ssz_back hw h2).1
  by_cases h : v = w
  · subst h
    rw [(same_eq v v).2 rfl]
    simp
  · have hs : sameV v w = false := by
      cases hq : sameV v w with
      | false => rfl
      | true => exact absurd ((same_eq v w).1 hq) h
    rw [hs, beq_eq_false_iff_ne]
    intro e
    rw [e, e2] at e1
    exact h (congrArg Prod.fst e1).symm
end Go.Proofs.YtgloapcfmlijlaaGreatDoor.M
namespace Go.Proofs.YtgloapcfmlijlaaGreatDoor.M
open Go
theorem fitVs_kind {k k' : Int} (h : k ≠ 7) (h8 : k ≠ 8) (h' : k' ≠ 7) (h8' : k' ≠ 8) (ins : List Ty) (pick pick' : Int) : ∀ (vs : List Va) (i : Nat), fitVs k ins pick i vs = fitVs k' ins pick' i vs
  | [], _ => by rw [fitVs, fitVs]
  | v :: vs, i => by
    have hi : inT k ins pick i = inT k' ins pick' i := by unfold inT; rw [if_neg h, if_neg h8, if_neg h', if_neg h8']
    rw [fitVs, fitVs, hi, fitVs_kind h h8 h' h8' ins pick pick' vs (i + 1)]
end Go.Proofs.YtgloapcfmlijlaaGreatDoor.M
namespace Go.Proofs.YtgloapcfmlijlaaGreatDoor.M
open Go
theorem rootVs_kind {k k' : Int} (h : k ≠ 7) (h8 : k ≠ 8) (h' : k' ≠ 7) (h8' : k' ≠ 8) (ins : List Ty) (pick pick' : Int) : ∀ (vs : List Va) (i : Nat), rootVs k ins pick i vs = rootVs k' ins pick' i vs
  | [], _ => rfl
  | v :: vs, i => by
    rw [rootVs, rootVs, rootVs_kind h h8 h' h8' ins pick pick' vs (i + 1)]
    unfold inT
    rw [if_neg h, if_neg h8, if_neg h', if_neg h8']
theorem putVs_kind {k k' : Int} (h : k ≠ 7) (h8 : k ≠ 8) (h' : k' ≠ 7) (h8' : k' ≠ 8) (ins : List Ty) (pick pick' : Int) : ∀ (vs : List Va) (i : Nat), putVs k ins pick i vs = putVs k' ins pick' i vs
  | [], _ => rfl
  | v :: vs, i => by
    rw [putVs, putVs, putVs_kind h h8 h' h8' ins pick pick' vs (i + 1)]
    unfold inT
    rw [if_neg h, if_neg h8, if_neg h', if_neg h8']
/-- A full list's root. -/
theorem root_full {n : Int} {ins : List Ty} {num : Nat} {bits : List Bool} {items : List Va} {pick : Int} : rootV (.mk 4 n ins) (.mk num bits items pick) = mixT (rootV (.mk 3 n ins) (.mk num bits items pick)) items.length := by
  rw [rootV, rootV]
  simp only [Ty.k, Ty.n, Ty.ins]
  rw [rootVs_kind (k := 4) (k' := 3) (by decide) (by decide) (by decide) (by decide) ins pick pick, putVs_kind (k := 4) (k' := 3) (by decide) (by decide) (by decide) (by decide) ins pick pick]
  simp only [show ¬ ((4 : Int) = 1 ∨ (4 : Int) = 2) by decide, show ¬ ((3 : Int) = 1 ∨ (3 : Int) = 2) by decide, show ¬ (4 : Int) = 5 by decide, show ¬ (3 : Int) = 5 by decide, show ¬ (4 : Int) = 6 by decide, show ¬ (3 : Int) = 6 by decide, show ¬ (4 : Int) = 8 by decide, show ¬ (3 : Int) = 8 by decide, show ¬ (4 : Int) = 7 by decide, show ¬ (3 : Int) = 7 by decide, show ¬ (3 : Int) = 4 by decide, if_false, if_true]
  cases isPl (ins[0]?.getD default) <;> rfl
end Go.Proofs.YtgloapcfmlijlaaGreatDoor.M
namespace Go.Proofs.YtgloapcfmlijlaaGreatDoor
open Go Go.RowKit
set_option maxRecDepth 100000 in
set_option maxHeartbeats 4000000 in
theorem types_n (n : Nat) : ∀ (l d : Int) (xs : List M.Ty) (a : Option Addr) (cap : Nat) (w : World) (mo : Nat) (dp : Int), SizeOf.sizeOf xs ≤ n → LayT w w.heap.size xs (.slice a xs.length cap) → mo ≤ 1000 → -1 ≤ dp → dp ≤ 16 →
    Calls Tryz.prog 60 #[tv l d (.slice a xs.length cap), .int .i64 (mo : Nat), .int .i64 dp] w fun e w' => (∃ r : Nat, e = .returned (.int .i64 (r : Nat)) ∧ 1 ≤ r ∧ r ≤ mo + 1 ∧ (r ≤ mo → M.cntT (.mk l d xs) ≤ r)) ∧ Below w.heap.size w w' := by
  induction n with
  | zero => intro l d xs a cap w mo dp h; cases xs <;> simp at h
  | succ n ih =>
    intro l d xs a cap w mo dp hs hL hmo hd1 hd2
    by_cases hdp : dp < 0
    · go_enter Tryz.func60, Tryz.ntmps60
      go_wp2_with fail
      go_ret
      refine ⟨⟨mo + 1, by simp, by omega, by omega, by omega⟩, ?_⟩
      (repeat (first | exact Below.refl _ _ | refine Below.drew ?_ | refine Below.alloc ?_ (by first | omega | (simp; omega) | simp) _ | refine Below.setCell ?_ (by first | omega | (simp; omega) | simp) _))
    · have hB := BoxT.new w l d (.slice a xs.length cap) 24
      have hb0 : Below w.heap.size w (w.alloc (.cells #[.int .i64 l, .int .i64 d, .slice a xs.length cap] 24)) := by (repeat (first | exact Below.refl _ _ | refine Below.drew ?_ | refine Below.alloc ?_ (by first | omega | (simp; omega) | simp) _ | refine Below.setCell ?_ (by first | omega | (simp; omega) | simp) _))
      have hdp' : decide (dp < 0) = false := by simp; omega
      go_enter Tryz.func60, Tryz.ntmps60
      go_wp2_with fail
      generalize hw0 : w.alloc (.cells #[.int .i64 l, .int .i64 d, .slice a xs.length cap] 24) = w0 at *
      have hz : w0.heap.size = w.heap.size + 1 := by rw [← hw0]; simp
      clear hw0
      go_loopw [7, 8] (fun m i wr => ∃ k q : Nat, k ≤ xs.length ∧ i = .int .i64 k ∧ m = .int .i64 (q : Nat) ∧ 1 ≤ q ∧ q ≤ mo + 1 ∧ (q ≤ mo → 1 + M.cntTs (xs.take k) ≤ q) ∧ Below w0.heap.size w0 wr) (fun _ i _ => xs.length - (intOf i).toNat)
      case atStart => exact ⟨0, 1, by omega, rfl, rfl, by omega, by omega, fun _ => by simp [M.cntTs], Below.refl _ _⟩
      case round =>
        obtain ⟨k, q, hk, rfl, rfl, hq1, hq2, hq3, hW⟩ := hrel
        have hbx := hB.from_ hW (by omega)
        have hLr := (hL.from_ hb0).from_ (hW.mono (by omega))
        have hsz := hW.size
        have hc2 := hbx.c2
        have hbW : Below w.heap.size w wr := hb0.trans (hW.mono (by omega))
        by_cases hlt : k < xs.length
        · obtain ⟨b, o, l', d', ys, au, cu, rfl, hbn, hxk, e0, e1, e2, hLu⟩ := hLr.at_ hlt
          by_cases hqm : q ≤ mo
          · have hk2 : k < 1000 := by have := hq3 hqm; have h2 := M.length_cntT (xs.take k); rw [List.length_take] at h2; omega
            have hnx := M.cntTs_next hxk
            generalize M.cntTs (xs.take k) = c at *
            have hsx := size_ty hxk
            rw [M.Ty.mk.sizeOf_spec] at hsx
            obtain ⟨r, hr⟩ : ∃ r, r = mo - q := ⟨_, rfl⟩
            have hr2 : (mo : Int) - (q : Int) = (r : Nat) := by omega
            have hr3 : Hid (r + q = mo) := by show _ = _; omega
            have hr4 : r ≤ 1000 := by omega
            clear hr
            have HQ := Lib.hid hq3
            have IH := Lib.hid ih
            have HN := Lib.hid hnx
            clear hq3 ih hnx
            go_wp2_with fail
            refine (IH.out l' d' ys au cu _ r _ (by omega) (hLu.mono (by omega)) (by omega) (by omega) (by omega)).mono ?_
            rintro e w1 ⟨⟨s, rfl, hs1, hs2, hs3⟩, hb1⟩
            have hw1 : Below w0.heap.size w0 w1 := hW.trans (hb1.mono hsz)
            have hqs : q + s ≤ 2000 := by have := hr3.out; omega
            generalize M.cntT (M.Ty.mk l' d' ys) = c2 at *
            have HS := Lib.hid hs3
            clear hs3
            go_wp2_with fail
            go_roundw
            case rel => exact ⟨k + 1, q + s, by omega, by simp, by simp, by omega, by have := hr3.out; omega, fun h => by have := hr3.out; rw [HN.out]; have := HS.out (by omega); have := HQ.out hqm; omega, hw1⟩
            case measure => simp [intOf]; omega
          · go_wp2_with fail
            go_ret
            exact ⟨⟨q, rfl, by omega, by omega, fun h => by omega⟩, hbW⟩
        · obtain rfl : k = xs.length := by omega
          rw [List.take_length] at *
          have HQ := Lib.hid hq3
          clear hq3
          go_wp2_with fail
          go_ret
          exact ⟨⟨q, rfl, by omega, by omega, fun h => by rw [M.cntT]; exact HQ.out h⟩, hbW⟩
end Go.Proofs.YtgloapcfmlijlaaGreatDoor
namespace Go.Proofs.YtgloapcfmlijlaaGreatDoor
open Go Go.RowKit
set_option maxRecDepth 100000 in
set_option maxHeartbeats 4000000 in
theorem vals_n (n : Nat) : ∀ (N : Nat) (bs : List Bool) (xs : List M.Va) (p : Int) (ab : Option Addr) (cb : Nat) (a : Option Addr) (cap : Nat) (w : World) (mo : Nat) (dp : Int), SizeOf.sizeOf xs ≤ n → Vl w w.heap.size N bs xs ab cb a cap → mo ≤ 1000 → -1 ≤ dp → dp ≤ 16 →
    Calls Tryz.prog 61 #[vv N (.slice ab bs.length cb) (.slice a xs.length cap) p, .int .i64 (mo : Nat), .int .i64 dp] w fun e w' => (∃ r : Nat, e = .returned (.int .i64 (r : Nat)) ∧ 1 ≤ r ∧ r ≤ mo + 1 ∧ (r ≤ mo → M.cntV (.mk N bs xs p) ≤ r)) ∧ Below w.heap.size w w' := by
  induction n with
  | zero => intro N bs xs p ab cb a cap w mo dp h; cases xs <;> simp at h
  | succ n ih =>
    intro N bs xs p ab cb a cap w mo dp hs hL hmo hd1 hd2
    have hB := Cells7.new w N (.slice ab bs.length cb) (.slice a xs.length cap) p 33
    have hb0 : Below w.heap.size w (w.alloc (.cells #[.int .u64 (M.pt 0 N), .int .u64 (M.pt 1 N), .int .u64 (M.pt 2 N), .int .u64 (M.pt 3 N), .slice ab bs.length cb, .slice a xs.length cap, .int .i64 p] 33)) := by (repeat (first | exact Below.refl _ _ | refine Below.drew ?_ | refine Below.alloc ?_ (by first | omega | (simp; omega) | simp) _ | refine Below.setCell ?_ (by first | omega | (simp; omega) | simp) _))
    obtain ⟨_, _, hbe, _, hbm⟩ := hL.b.slice
    have hbl : bs.length ≤ maxLen := by
      cases hbe
      omega
    simp only [maxLen] at hbl
    clear hbe hbm
    obtain ⟨q8, hq8⟩ : ∃ q8, q8 = bs.length / 8 := ⟨_, rfl⟩
    have h8 : (bs.length : Int) / 8 = (q8 : Nat) := by omega
    have hc8 : Hid (M.cntV (.mk N bs xs p) = 1 + q8 + M.cntVs xs) := by show _ = _; rw [M.cntV, hq8]
    have hq8m : q8 ≤ 9223372036854775807 / 8 := by omega
    clear hq8
    by_cases hdp : dp < 0
    · clear hc8
      go_enter Tryz.func61, Tryz.ntmps61
      go_wp2_with fail
      go_ret
      refine ⟨⟨mo + 1, by simp, by omega, by omega, by omega⟩, ?_⟩
      exact hb0
    · have hdp' : decide (dp < 0) = false := by simp; omega
      by_cases hbig : mo < 1 + q8
      · have hbig' : (mo : Int) < 1 + (q8 : Int) := by omega
        clear hc8
        go_enter Tryz.func61, Tryz.ntmps61
        go_wp2_with fail
        go_ret
        refine ⟨⟨mo + 1, by simp, by omega, by omega, by omega⟩, ?_⟩
        exact hb0
      · have hbig' : ¬ (mo : Int) < 1 + (q8 : Int) := by omega
        go_enter Tryz.func61, Tryz.ntmps61
        go_wp2_with fail
        generalize hw0 : w.alloc (.cells #[.int .u64 (M.pt 0 N), .int .u64 (M.pt 1 N), .int .u64 (M.pt 2 N), .int .u64 (M.pt 3 N), .slice ab bs.length cb, .slice a xs.length cap, .int .i64 p] 33) = w0 at *
        have hz : w0.heap.size = w.heap.size + 1 := by rw [← hw0]; simp
        clear hw0
        go_loopw [7, 8] (fun m i wr => ∃ k q : Nat, k ≤ xs.length ∧ i = .int .i64 k ∧ m = .int .i64 (q : Nat) ∧ 1 ≤ q ∧ q ≤ mo + 1 ∧ (q ≤ mo → 1 + q8 + M.cntVs (xs.take k) ≤ q) ∧ Below w0.heap.size w0 wr) (fun _ i _ => xs.length - (intOf i).toNat)
        case atStart => exact ⟨0, 1 + q8, by omega, rfl, by simp, by omega, by omega, fun _ => by simp [M.cntVs], Below.refl _ _⟩
        case round =>
          obtain ⟨k, q, hk, rfl, rfl, hq1, hq2, hq3, hW⟩ := hrel
          have hbx := hB.from_ hW (by omega)
          have hLr := (hL.from_ hb0).from_ (hW.mono (by omega))
          have hsz := hW.size
          have hc5 := hbx.c5
          have hbW : Below w.heap.size w wr := hb0.trans (hW.mono (by omega))
          by_cases hlt : k < xs.length
          · obtain ⟨b, o, N', bs', us, p', ab', cb', au, cu, rfl, hbn, hxk, hC, hVl⟩ := hLr.v.at_ hlt
            obtain ⟨e0, e1, e2, e3, e4, e5, e6⟩ := hC
            by_cases hqm : q ≤ mo
            · have hk2 : k < 1000 := by have := hq3 hqm; have h2 := M.length_cntV (xs.take k); rw [List.length_take] at h2; omega
              have hnx := M.cntVs_next hxk
              generalize M.cntVs (xs.take k) = c at *
              have hsx := size_va hxk
              rw [M.Va.mk.sizeOf_spec] at hsx
              obtain ⟨r, hr⟩ : ∃ r, r = mo - q := ⟨_, rfl⟩
              have hr2 : (mo : Int) - (q : Int) = (r : Nat) := by omega
              have hr3 : Hid (r + q = mo) := by show _ = _; omega
              have hr4 : r ≤ 1000 := by omega
              clear hr
              have HQ := Lib.hid hq3
              have IH := Lib.hid ih
              have HN := Lib.hid hnx
              clear hq3 ih hnx
              go_wp2_with fail
              refine (IH.out N' bs' us p' ab' cb' au cu _ r _ (by omega) (hVl.mono (by omega)) (by omega) (by omega) (by omega)).mono ?_
              rintro e w1 ⟨⟨s, rfl, hs1, hs2, hs3⟩, hb1⟩
              have hw1 : Below w0.heap.size w0 w1 := hW.trans (hb1.mono hsz)
              have hqs : q + s ≤ 2000 := by have := hr3.out; omega
              generalize M.cntV (M.Va.mk N' bs' us p') = c2 at *
              have HS := Lib.hid hs3
              clear hs3
              go_wp2_with fail
              go_roundw
              case rel => exact ⟨k + 1, q + s, by omega, by simp, by simp, by omega, by have := hr3.out; omega, fun h => by have := hr3.out; rw [HN.out]; have := HS.out (by omega); have := HQ.out hqm; omega, hw1⟩
              case measure => simp [intOf]; omega
            · go_wp2_with fail
              go_ret
              exact ⟨⟨q, rfl, by omega, by omega, fun h => by omega⟩, hbW⟩
          · obtain rfl : k = xs.length := by omega
            rw [List.take_length] at *
            have HQ := Lib.hid hq3
            clear hq3
            go_wp2_with fail
            go_ret
            exact ⟨⟨q, rfl, by omega, by omega, fun h => by rw [hc8.out]; exact HQ.out h⟩, hbW⟩
end Go.Proofs.YtgloapcfmlijlaaGreatDoor
namespace Go.Proofs.YtgloapcfmlijlaaGreatDoor
open Go Go.RowKit
/-- What Few tells. -/
structure FewP (e : Ending) (t : M.Ty) (v : M.Va) : Prop where
  out : ∃ q : Bool, e = .returned (.bool q) ∧ (q = true → M.cntT t ≤ 60 ∧ M.cntV v ≤ 150)
set_option maxRecDepth 100000 in
set_option maxHeartbeats 4000000 in
theorem sfew_any (k n : Int) (ts : List M.Ty) (at_ : Option Addr) (ct : Nat) (N : Nat) (bs : List Bool) (us : List M.Va) (p : Int) (ab : Option Addr) (cb : Nat) (a : Option Addr) (cap : Nat) (w : World) (hT : LayT w w.heap.size ts (.slice at_ ts.length ct)) (hV : Vl w w.heap.size N bs us ab cb a cap) :
    Calls Tryz.prog 27 #[tv k n (.slice at_ ts.length ct), vv N (.slice ab bs.length cb) (.slice a us.length cap) p] w fun e w' => FewP e (.mk k n ts) (.mk N bs us p) ∧ Below w.heap.size w w' := by
  have HC := Lib.hid (fun W (h : Below w.heap.size w W) => types_n _ k n ts at_ ct W 60 9 (Nat.le_refl _) ((hT.from_ h).mono h.size) (by omega) (by omega) (by omega))
  have HF := Lib.hid (fun W (h : Below w.heap.size w W) => vals_n _ N bs us p ab cb a cap W 150 9 (Nat.le_refl _) ((hV.from_ h).mono h.size) (by omega) (by omega) (by omega))
  have hb0 := two_boxes w
  clear hT hV
  go_enter Tryz.func27, Tryz.ntmps27
  go_wp2_with fail
  refine (HC.out _ (hb0 _ _)).mono ?_
  rintro e w1 ⟨⟨r, rfl, hr1, hr2, hr3⟩, hb1⟩
  obtain ⟨hce, hfr⟩ := bcell hb1
  have HR := Lib.hid hr3
  by_cases hr : r ≤ 60
  · have hr' : (r : Int) ≤ 60 := by omega
    clear hr3
    go_wp2_with fail
    refine (HF.out _ ((hb0 _ _).trans (hb1.mono (by simp; omega)))).mono ?_
    rintro e w2 ⟨⟨s, rfl, hs1, hs2, hs3⟩, hb2⟩
    have HS := Lib.hid hs3
    clear hs3
    go_wp2_with fail
    go_ret
    refine ⟨⟨_, rfl, fun h => ?_⟩, (hb0 _ _).trans ((hb1.trans (hb2.mono hb1.size)).mono (by simp; omega))⟩
    have h1 : s ≤ 150 := by simp at h; omega
    exact ⟨Nat.le_trans (HR.out hr) hr, Nat.le_trans (HS.out h1) h1⟩
  · have hr' : ¬ (r : Int) ≤ 60 := by omega
    clear hr3
    go_wp2_with fail
    go_ret
    exact ⟨⟨false, rfl, fun h => by simp at h⟩, (hb0 _ _).trans (hb1.mono (by simp; omega))⟩
end Go.Proofs.YtgloapcfmlijlaaGreatDoor
