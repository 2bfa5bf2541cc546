/- What the calls of package shape must do; the example of layer 7. -/
import Derived.Test.YtmlkccbhdhgoeaaDoorT13g
namespace Go.Proofs.YtmlkccbhdhgoeaaDoor
open Go Go.RowKit

def SCheckOk : Prop := ∀ (k n : Int) (ts : List M.Ty) (a : Option Addr) (cap : Nat) (W : World), LayT W W.heap.size ts (.slice a ts.length cap) → M.cntT (.mk k n ts) ≤ 100 →
  Calls Tryd.prog 14 #[tv k n (.slice a ts.length cap)] W fun e w' => e = .returned (.int .i64 (M.chkT 0 (.mk k n ts) : Nat)) ∧ Below W.heap.size W w'
def SFixedOk : Prop := ∀ (k n : Int) (ts : List M.Ty) (a : Option Addr) (cap : Nat) (W : World), LayT W W.heap.size ts (.slice a ts.length cap) → M.cntT (.mk k n ts) ≤ 100 →
  Calls Tryd.prog 15 #[tv k n (.slice a ts.length cap)] W fun e w' => e = .returned (.bool (M.fixedT (.mk k n ts))) ∧ Below W.heap.size W w'
def SSizeOk : Prop := ∀ (k n : Int) (ts : List M.Ty) (a : Option Addr) (cap : Nat) (W : World), LayT W W.heap.size ts (.slice a ts.length cap) → M.cntT (.mk k n ts) ≤ 100 →
  Calls Tryd.prog 16 #[tv k n (.slice a ts.length cap)] W fun e w' => e = .returned (.int .i64 (M.sizeT (.mk k n ts) : Nat)) ∧ Below W.heap.size W w'
def SFitsOk : Prop := ∀ (k n : Int) (ts : List M.Ty) (a : Option Addr) (cap : Nat) (N : Nat) (bs : List Bool) (us : List M.Va) (p : Int) (ab : Option Addr) (cb : Nat) (au : Option Addr) (cu : Nat) (W : World), LayT W W.heap.size ts (.slice a ts.length cap) → Vl W W.heap.size N bs us ab cb au cu → M.cntT (.mk k n ts) ≤ 100 → M.cntV (.mk N bs us p) ≤ 200 →
  Calls Tryd.prog 19 #[tv k n (.slice a ts.length cap), vv N (.slice ab bs.length cb) (.slice au us.length cu) p] W fun e w' => e = .returned (.int .i64 (M.fitsV (.mk k n ts) (.mk N bs us p) : Nat)) ∧ Below W.heap.size W w'
def SSameOk : Prop := ∀ (N : Nat) (bs : List Bool) (us : List M.Va) (p : Int) (ab : Option Addr) (cb : Nat) (au : Option Addr) (cu : Nat) (N2 : Nat) (bs2 : List Bool) (us2 : List M.Va) (p2 : Int) (ab2 : Option Addr) (cb2 : Nat) (au2 : Option Addr) (cu2 : Nat) (W : World), Vl W W.heap.size N bs us ab cb au cu → Vl W W.heap.size N2 bs2 us2 ab2 cb2 au2 cu2 → M.cntV (.mk N bs us p) ≤ 200 → M.cntV (.mk N2 bs2 us2 p2) ≤ 200 →
  Calls Tryd.prog 17 #[vv N (.slice ab bs.length cb) (.slice au us.length cu) p, vv N2 (.slice ab2 bs2.length cb2) (.slice au2 us2.length cu2) p2] W fun e w' => e = .returned (.bool (M.sameV (.mk N bs us p) (.mk N2 bs2 us2 p2))) ∧ Below W.heap.size W w'
structure Shapes : Prop where
  check : SCheckOk
  fixed_ : SFixedOk
  size : SSizeOk
  fits : SFitsOk
  same : SSameOk

theorem vv_0 (u v : Value) (p : Int) : vv 0 u v p = .agg #[.int .u64 0, .int .u64 0, .int .u64 0, .int .u64 0, u, v, .int .i64 p] := by
  show Value.agg _ = _
  rw [show M.pt 0 0 = 0 by decide +kernel, show M.pt 1 0 = 0 by decide +kernel, show M.pt 2 0 = 0 by decide +kernel, show M.pt 3 0 = 0 by decide +kernel]
theorem vv_258 (u v : Value) (p : Int) : vv 258 u v p = .agg #[.int .u64 258, .int .u64 0, .int .u64 0, .int .u64 0, u, v, .int .i64 p] := by
  show Value.agg _ = _
  rw [show M.pt 0 258 = 258 by decide +kernel, show M.pt 1 258 = 0 by decide +kernel, show M.pt 2 258 = 0 by decide +kernel, show M.pt 3 258 = 0 by decide +kernel]
theorem vv_65536 (u v : Value) (p : Int) : vv 65536 u v p = .agg #[.int .u64 65536, .int .u64 0, .int .u64 0, .int .u64 0, u, v, .int .i64 p] := by
  show Value.agg _ = _
  rw [show M.pt 0 65536 = 65536 by decide +kernel, show M.pt 1 65536 = 0 by decide +kernel, show M.pt 2 65536 = 0 by decide +kernel, show M.pt 3 65536 = 0 by decide +kernel]
/-- The example's types and values. -/
def M.two : M.Ty := .mk 1 2 []
def M.one : M.Va := .mk 258 [] [] 0
theorem row_one {W : World} {b : Nat} {n : Nat} (h : W.heap[b]? = some (.cells #[.int .i64 1, .int .i64 2, .slice none 0 0] 24 (0, 0))) (hb : b < n) : LayT W n [M.two] (.slice (some ⟨b, 0, none⟩) 1 1) := by
  refine .row (ts := [M.two]) (fun _ => .slice none 0 0) hb (Nat.le_refl _) (by decide) ?_ ?_ ?_ ?_
  all_goals
    intro i k m us e
    match i, e with
    | 0, e => cases e; first | exact .nil_ (by decide) | simp [World.cell?, h]
theorem row_two {W : World} {b c : Nat} {n : Nat} (h : W.heap[b]? = some (.cells #[.int .i64 1, .int .i64 2, .slice none 0 0, .int .i64 4, .int .i64 2, .slice (some ⟨c, 0, none⟩) 1 1] 24 (0, 0))) (hb : b < n) (hc : LayT W n [M.two] (.slice (some ⟨c, 0, none⟩) 1 1)) : LayT W n [M.two, .mk 4 2 [M.two]] (.slice (some ⟨b, 0, none⟩) 2 2) := by
  refine .row (ts := [M.two, .mk 4 2 [M.two]]) (fun i => if i = 0 then .slice none 0 0 else .slice (some ⟨c, 0, none⟩) 1 1) hb (Nat.le_refl _) (by decide) ?_ ?_ ?_ ?_
  all_goals
    intro i k m us e
    match i, e with
    | 0, e => cases e; first | exact .nil_ (by decide) | simp [World.cell?, h]
    | 1, e => cases e; first | exact hc | simp [World.cell?, h]
theorem vals_of {W : World} {b n m : Nat} {cur : Array Value} (h : W.heap[b]? = some (.cells cur 31 (0, 0))) (hb : b < n) (hm : m ≤ 10) (hc : ∀ i, i < m → cur[i * 7]? = some (Value.int .u64 258) ∧ cur[i * 7 + 1]? = some (Value.int .u64 0) ∧ cur[i * 7 + 2]? = some (Value.int .u64 0) ∧ cur[i * 7 + 3]? = some (Value.int .u64 0) ∧ cur[i * 7 + 4]? = some (Value.slice none 0 0) ∧ cur[i * 7 + 5]? = some (Value.slice none 0 0) ∧ cur[i * 7 + 6]? = some (Value.int .i64 0)) :
    LayV W n (List.replicate m M.one) (.slice (some ⟨b, 0, none⟩) m m) := by
  have key := LayV.row (w := W) (n := n) (vs := List.replicate m M.one) (b := b) (o := 0) (cap := m) (fun _ => .slice none 0 0) (fun _ => .slice none 0 0) hb (by simp) (by simp only [maxLen]; omega) ?_ ?_ ?_ ?_
  · rw [List.length_replicate] at key
    exact key
  all_goals
    intro i N bs us p e
    have hi : i < m := by
      have := (List.getElem?_eq_some_iff.1 e).1
      rwa [List.length_replicate] at this
    rw [List.getElem?_replicate, if_pos hi] at e
    cases e
  · unfold M.In; omega
  · obtain ⟨c0, c1, c2, c3, c4, c5, c6⟩ := hc i hi
    refine ⟨?_, ?_, ?_, ?_, ?_, ?_, ?_⟩
    · rw [show M.pt 0 258 = 258 by decide +kernel]; simp [World.cell?, h, c0]
    · rw [show M.pt 1 258 = 0 by decide +kernel]; simp [World.cell?, h, c1]
    · rw [show M.pt 2 258 = 0 by decide +kernel]; simp [World.cell?, h, c2]
    · rw [show M.pt 3 258 = 0 by decide +kernel]; simp [World.cell?, h, c3]
    · simp [World.cell?, h, c4]
    · simp [World.cell?, h, c5]
    · simp [World.cell?, h, c6]
  · exact .nil_ (by decide)
  · exact .nil_ (by decide)
theorem val_in {W : World} {b c n : Nat} (h : W.heap[b]? = some (.cells #[.int .u64 0, .int .u64 0, .int .u64 0, .int .u64 0, .slice none 0 0, .slice (some ⟨c, 0, none⟩) 1 1, .int .i64 0] 31 (0, 0))) (hb : b < n) (hc : LayV W n [M.one] (.slice (some ⟨c, 0, none⟩) 1 1)) :
    LayV W n [.mk 0 [] [M.one] 0] (.slice (some ⟨b, 0, none⟩) 1 1) := by
  have hcell : Cells7 W b (0 + 0 * 7) 0 (.slice none 0 0) (.slice (some ⟨c, 0, none⟩) 1 1) 0 := by
    refine ⟨?_, ?_, ?_, ?_, ?_, ?_, ?_⟩
    · rw [show M.pt 0 0 = 0 by decide +kernel]; simp [World.cell?, h]
    · rw [show M.pt 1 0 = 0 by decide +kernel]; simp [World.cell?, h]
    · rw [show M.pt 2 0 = 0 by decide +kernel]; simp [World.cell?, h]
    · rw [show M.pt 3 0 = 0 by decide +kernel]; simp [World.cell?, h]
    · simp [World.cell?, h]
    · simp [World.cell?, h]
    · simp [World.cell?, h]
  refine .row (vs := [.mk 0 [] [M.one] 0]) (fun _ => .slice none 0 0) (fun _ => .slice (some ⟨c, 0, none⟩) 1 1) hb (Nat.le_refl _) (by decide) ?_ ?_ ?_ ?_
  all_goals
    intro i N bs us p e
    match i, e with
    | 0, e => cases e; first | exact .nil_ (by decide) | exact hc | exact hcell | (unfold M.In; omega)
end Go.Proofs.YtmlkccbhdhgoeaaDoor
