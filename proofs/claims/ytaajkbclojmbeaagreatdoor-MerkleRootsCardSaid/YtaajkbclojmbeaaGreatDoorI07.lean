/- The reference's Same, of values. What the calls of package shape must do; the example of layer 7. The landed package shape: what a kind's fields are made of: numbers, forms, sizes. -/
import Derived.Test.YtaajkbclojmbeaaGreatDoorI06
import Derived.Test.YtaajkbclojmbeaaGreatDoorI04
namespace Go.Proofs.YtaajkbclojmbeaaGreatDoor
open Go Go.RowKit

end Go.Proofs.YtaajkbclojmbeaaGreatDoor
namespace Go.Proofs.YtaajkbclojmbeaaGreatDoor
open Go Go.RowKit

def SFixedOk : Prop := ∀ (k n : Int) (ts : List M.Ty) (a : Option Addr) (cap : Nat) (W : World), LayT W W.heap.size ts (.slice a ts.length cap) → M.cntT (.mk k n ts) ≤ 1000 →
  Calls Tryz.prog 192 #[tv k n (.slice a ts.length cap)] W fun e w' => e = .returned (.bool (M.fixedT (.mk k n ts))) ∧ Below W.heap.size W w'
def SSizeOk : Prop := ∀ (k n : Int) (ts : List M.Ty) (a : Option Addr) (cap : Nat) (W : World), LayT W W.heap.size ts (.slice a ts.length cap) → M.cntT (.mk k n ts) ≤ 1000 →
  Calls Tryz.prog 48 #[tv k n (.slice a ts.length cap)] W fun e w' => e = .returned (.int .i64 (M.sizeT (.mk k n ts) : Nat)) ∧ Below W.heap.size W w'
def SFitsOk : Prop := ∀ (k n : Int) (ts : List M.Ty) (a : Option Addr) (cap : Nat) (N : Nat) (bs : List Bool) (us : List M.Va) (p : Int) (ab : Option Addr) (cb : Nat) (au : Option Addr) (cu : Nat) (W : World), LayT W W.heap.size ts (.slice a ts.length cap) → Vl W W.heap.size N bs us ab cb au cu → M.cntT (.mk k n ts) ≤ 1000 → M.cntV (.mk N bs us p) ≤ 6000 →
  Calls Tryz.prog 23 #[tv k n (.slice a ts.length cap), vv N (.slice ab bs.length cb) (.slice au us.length cu) p] W fun e w' => e = .returned (.int .i64 (M.fitsV (.mk k n ts) (.mk N bs us p) : Nat)) ∧ Below W.heap.size W w'
/-- The example's types and values. -/
def M.two : M.Ty := .mk 1 2 []
def M.one : M.Va := .mk 258 [] [] 0
end Go.Proofs.YtaajkbclojmbeaaGreatDoor
namespace Go.Proofs.YtaajkbclojmbeaaGreatDoor
open Go Go.RowKit

theorem width_any (n : Int) (w : World) : Calls Tryz.prog 75 #[.int .i64 n] w fun e w' => e = .returned (.bool (n == 1 || n == 2 || n == 4 || n == 8 || n == 32)) ∧ w' = w := by
  by_cases h1 : n = 1
  · subst h1
    go_enter Tryz.func75, Tryz.ntmps75
    go_wp2_with fail
    go_ret
    exact ⟨by simp, rfl⟩
  · by_cases h2 : n = 2
    · subst h2
      go_enter Tryz.func75, Tryz.ntmps75
      go_wp2_with fail
      go_ret
      exact ⟨by simp, rfl⟩
    · by_cases h3 : n = 4
      · subst h3
        go_enter Tryz.func75, Tryz.ntmps75
        go_wp2_with fail
        go_ret
        exact ⟨by simp, rfl⟩
      · by_cases h4 : n = 8
        · subst h4
          go_enter Tryz.func75, Tryz.ntmps75
          go_wp2_with fail
          go_ret
          exact ⟨by simp, rfl⟩
        · have e1 : (n == 1) = false := by simp [h1]
          have e2 : (n == 2) = false := by simp [h2]
          have e3 : (n == 4) = false := by simp [h3]
          have e4 : (n == 8) = false := by simp [h4]
          go_enter Tryz.func75, Tryz.ntmps75
          go_wp2_with fail
          go_ret
          exact ⟨by simp [e1, e2, e3, e4], rfl⟩
theorem nought_any (n : Int) (w : World) : Calls Tryz.prog 81 #[.int .i64 n] w fun e w' => e = .returned (.bool (n == 0)) ∧ w' = w := by
  go_enter Tryz.func81, Tryz.ntmps81
  go_wp2_with fail
  go_ret
  exact ⟨by simp, rfl⟩
theorem count_any (n : Int) (w : World) : Calls Tryz.prog 86 #[.int .i64 n] w fun e w' => e = .returned (.bool (decide (1 ≤ n) && decide (n ≤ 512))) ∧ w' = w := by
  by_cases h1 : 1 ≤ n
  · go_enter Tryz.func86, Tryz.ntmps86
    go_wp2_with fail
    go_ret
    exact ⟨by simp [h1], rfl⟩
  · go_enter Tryz.func86, Tryz.ntmps86
    go_wp2_with fail
    go_ret
    exact ⟨by simp; omega, rfl⟩

/-- What 'has' has made: the three captured boxes. -/
structure HasAt (W : World) (n c : Nat) (g : FuncId) (lo hi : Nat) : Prop where
  lt : c + 2 < n
  c0 : W.cell? ⟨c, 0, none⟩ = some (.func (.func g) #[] #[])
  c1 : W.cell? ⟨c + 1, 0, none⟩ = some (.int .i64 lo)
  c2 : W.cell? ⟨c + 2, 0, none⟩ = some (.int .i64 hi)
theorem HasAt.from_ {w W : World} {n c : Nat} {g : FuncId} {lo hi : Nat} (h : HasAt w n c g lo hi) (hb : Below n w W) : HasAt W n c g lo hi :=
  ⟨h.lt, (hb.cell (p := ⟨c, 0, none⟩) (by have := h.lt; simp; omega)).trans h.c0, (hb.cell (p := ⟨c + 1, 0, none⟩) (by have := h.lt; simp; omega)).trans h.c1, (hb.cell (p := ⟨c + 2, 0, none⟩) (by have := h.lt; simp; omega)).trans h.c2⟩
theorem HasAt.mono {w : World} {n m c : Nat} {g : FuncId} {lo hi : Nat} (h : HasAt w n c g lo hi) (hm : n ≤ m) : HasAt w m c g lo hi := ⟨by have := h.lt; omega, h.c0, h.c1, h.c2⟩
/-- The function value. -/
abbrev hasV (c : Nat) : Value := .func (.func 136) #[] #[.pointer (some ⟨c, 0, none⟩), .pointer (some ⟨c + 1, 0, none⟩), .pointer (some ⟨c + 2, 0, none⟩)]

theorem has_any (g : FuncId) (lo hi : Nat) (w : World) : Calls Tryz.prog 74 #[.func (.func g) #[] #[], .int .i64 lo, .int .i64 hi] w fun e w' => e = .returned (hasV w.heap.size) ∧ HasAt w' w'.heap.size w.heap.size g lo hi ∧ Below w.heap.size w w' := by
  have hmf : ∀ (fn : Fn) (first cap : Array Value) (w : World), (Instr.makeFunc fn first cap).run Tryz.prog w = .ok (.func fn first cap) w := fun _ _ _ _ => rfl
  have hb0 : Below w.heap.size w (((w.alloc (.cells #[.func (.func g) #[] #[]] 90)).alloc (.cells #[.int .i64 lo] 3)).alloc (.cells #[.int .i64 hi] 3)) := by (repeat (first | exact Below.refl _ _ | refine Below.drew ?_ | refine Below.alloc ?_ (by first | omega | (simp; omega) | simp) _ | refine Below.setCell ?_ (by first | omega | (simp; omega) | simp) _))
  go_enter Tryz.func74, Tryz.ntmps74
  go_wp2_with fail
  go_ret
  exact ⟨rfl, ⟨by simp, by simp [go_sem], by simp [go_sem], by simp [go_sem]⟩, hb0⟩

set_option maxRecDepth 100000 in
set_option maxHeartbeats 4000000 in
theorem form_any (g : FuncId) (q : Int → Bool) (E1 : ∀ args w, (callFunc g args).run Tryz.prog w = .ok (.enter g args) w) (hg : ∀ n w, Calls Tryz.prog g #[.int .i64 n] w fun e w' => e = .returned (.bool (q n)) ∧ w' = w)
    (c lo hi : Nat) (k n : Int) (m : Nat) (_hm : (m : Int) ≤ 9223372036854775807) (a : Option Addr) (cap : Nat) (w : World) (hH : HasAt w w.heap.size c g lo hi) :
    Calls Tryz.prog 136 #[tv k n (.slice a m cap), .pointer (some ⟨c, 0, none⟩), .pointer (some ⟨c + 1, 0, none⟩), .pointer (some ⟨c + 2, 0, none⟩)] w fun e w' => e = .returned (.bool (q n && decide (lo ≤ m) && decide (m ≤ hi))) ∧ Below w.heap.size w w' := by
  have hb0 : Below w.heap.size w (w.alloc (.cells #[.int .i64 k, .int .i64 n, .slice a m cap] 32)) := by (repeat (first | exact Below.refl _ _ | refine Below.drew ?_ | refine Below.alloc ?_ (by first | omega | (simp; omega) | simp) _ | refine Below.setCell ?_ (by first | omega | (simp; omega) | simp) _))
  have H1 := hH.from_ hb0
  have c0 := H1.c0
  have c1 := H1.c1
  have c2 := H1.c2
  have hlt := hH.lt
  have HG := Lib.hid (hg n)
  clear hg
  generalize q n = b at *
  cases b with
  | false =>
    clear H1 hH
    go_enter Tryz.func136, Tryz.ntmps136
    go_wp2_with fail
    refine (HG.out _).mono ?_
    rintro e w1 ⟨rfl, rfl⟩
    go_wp2_with fail
    go_ret
    exact ⟨by simp, hb0⟩
  | true =>
    by_cases h1 : lo ≤ m
    · have h1' : (lo : Int) ≤ m := by omega
      by_cases h2 : m ≤ hi
      · have h2' : (m : Int) ≤ hi := by omega
        rw [show (true && decide (lo ≤ m) && decide (m ≤ hi)) = true by simp [h1, h2]]
        clear H1 hH h1 h2
        go_enter Tryz.func136, Tryz.ntmps136
        go_wp2_with fail
        refine (HG.out _).mono ?_
        rintro e w1 ⟨rfl, rfl⟩
        go_wp2_with fail
        go_ret
        exact ⟨rfl, hb0⟩
      · have h2' : ¬ (m : Int) ≤ hi := by omega
        rw [show (true && decide (lo ≤ m) && decide (m ≤ hi)) = false by simp [h1, h2]]
        have h3 := Lib.hid h2
        clear H1 hH h1 h2
        go_enter Tryz.func136, Tryz.ntmps136
        go_wp2_with fail
        refine (HG.out _).mono ?_
        rintro e w1 ⟨rfl, rfl⟩
        go_wp2_with fail
        go_ret
        exact ⟨by have := h3.out; simp; omega, hb0⟩
    · have h1' : ¬ (lo : Int) ≤ m := by omega
      rw [show (true && decide (lo ≤ m) && decide (m ≤ hi)) = false by simp [h1]]
      clear H1 hH h1
      go_enter Tryz.func136, Tryz.ntmps136
      go_wp2_with fail
      refine (HG.out _).mono ?_
      rintro e w1 ⟨rfl, rfl⟩
      go_wp2_with fail
      go_ret
      exact ⟨rfl, hb0⟩
end Go.Proofs.YtaajkbclojmbeaaGreatDoor
