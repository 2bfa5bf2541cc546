/- The landed package shape: a type and those in it, as they are told. -/
import Derived.Test.YtmlkccbhdhgoeaaDoorY6g
import Derived.Test.YtmlkccbhdhgoeaaDoorT20g
import Derived.Test.YtmlkccbhdhgoeaaDoorMM
import Derived.DefersIn
import Derived.OwnWalkIn
import Derived.TacticsInMore
import Derived.LoopNIn
import Derived.LoopIn
namespace Go.Proofs.YtmlkccbhdhgoeaaDoor
open Go Go.RowKit
attribute [local go_sem] Oper.semAt_some

theorem yieldAt_any {m m' : Nat} {P : Program} {l : Nat} {args : Array Value} {W : World} {R : Ending → World → Prop} (h : YieldAt Fence.wide m P l args W R) : YieldAt Fence.wide m' P l args W R := by
  obtain ⟨fn, tmps, assign, body, hy, h1, h2⟩ := h
  exact ⟨fn, tmps, assign, body, hy, h1, fun c cs _ => h2 c cs (room_wide _)⟩

/-- What comes each time: in how many types it stands, a type, the value of those in it. -/
abbrev El := (Nat × M.Ty) × Value
def encT (x : El) : Array Value := match x.1.2 with | .mk k n _ => #[.int .i64 (x.1.1 : Nat), tv k n x.2]
def GoodEl (w0 : World) (L0 : List (Nat × M.Ty)) (pre : List El) (x : El) : Prop := LayT w0 w0.heap.size x.1.2.ins x.2 ∧ x.1.1 + M.cntT x.1.2 ≤ 200 ∧ ∃ zs, L0 = pre.map (·.1) ++ x.1 :: zs

/-- What the rounds do, for the function that calls them. -/
structure TellH (w0 : World) (L0 : List (Nat × M.Ty)) (T : Nat → Prop) (N0 l : Nat) (J : List El → World → Prop) (Jx : El → World → Prop) (On : El → Prop) : Prop where
  grow : ∀ pre A B, J pre A → A.grownBy B none → J pre B
  low : ∀ pre A, J pre A → Below w0.heap.size w0 A
  new : ∀ pre A, J pre A → N0 ≤ A.heap.size
  tn : ∀ b, N0 ≤ b → T b
  y : ∀ m pre x A, J pre A → GoodEl w0 L0 pre x → YieldAt Fence.wide m Tryd.prog l (encT x) A fun e W' =>
    (e = .returned (.bool true) ∧ On x ∧ J (pre ++ [x]) W' ∧ A.heap.size ≤ W'.heap.size ∧ ∀ b, b < A.heap.size → T b → W'.heap[b]? = A.heap[b]?) ∨ (e = .returned (.bool false) ∧ ¬ On x ∧ Jx x W')

def TellP (T : Nat → Prop) (J : List El → World → Prop) (Jx : El → World → Prop) (On : El → Prop) (pre : List El) (L : List (Nat × M.Ty)) (W : World) (e : Ending) (W' : World) : Prop :=
  (e = .returned (.bool true) ∧ ∃ ys : List El, ys.map (·.1) = L ∧ (∀ y ∈ ys, On y) ∧ J (pre ++ ys) W' ∧ W.heap.size ≤ W'.heap.size ∧ ∀ b, b < W.heap.size → T b → W'.heap[b]? = W.heap[b]?) ∨
  (e = .returned (.bool false) ∧ ∃ (ys : List El) (y : El) (zs : List (Nat × M.Ty)), L = ys.map (·.1) ++ y.1 :: zs ∧ (∀ z ∈ ys, On z) ∧ ¬ On y ∧ Jx y W')

set_option maxRecDepth 100000 in
set_option maxHeartbeats 8000000 in
theorem tell_n (w0 : World) (L0 : List (Nat × M.Ty)) (T : Nat → Prop) (N0 l : Nat) (J : List El → World → Prop) (Jx : El → World → Prop) (On : El → Prop) (H : TellH w0 L0 T N0 l J Jx On) (z : Nat) :
    ∀ (d : Nat) (k n : Int) (xs : List M.Ty) (a : Option Addr) (cap : Nat) (pre : List El) (W : World), SizeOf.sizeOf xs ≤ z → LayT w0 w0.heap.size xs (.slice a xs.length cap) → d + M.cntT (.mk k n xs) ≤ 200 → (∃ zs, L0 = pre.map (·.1) ++ M.flat d (.mk k n xs) ++ zs) → J pre W →
    Calls Tryd.prog 77 #[.int .i64 (d : Nat), tv k n (.slice a xs.length cap), .func (.yield l) #[] #[]] W (TellP T J Jx On pre (M.flat d (.mk k n xs)) W) := by
  have hro : Fence.wide.round = none := rfl
  induction z with
  | zero => intro d k n xs a cap pre W h; cases xs <;> simp at h
  | succ z ih =>
    intro d k n xs a cap pre W hs hL hd hp h0
    obtain ⟨x, hx⟩ : ∃ x : El, x = ((d, .mk k n xs), .slice a xs.length cap) := ⟨_, rfl⟩
    have hcx : M.cntTs xs + 1 + d ≤ 200 := by rw [M.cntT] at hd; omega
    have hlen := M.length_cntT xs
    obtain ⟨d1, hd1e⟩ : ∃ d1, d1 = d + 1 := ⟨_, rfl⟩
    have hd1 : (d : Int) + 1 = (d1 : Nat) := by omega
    have hd1c : M.cntTs xs + d1 ≤ 200 := by omega
    obtain ⟨W1, hW1⟩ : ∃ W1, W.alloc (.cells #[.int .i64 k, .int .i64 n, .slice a xs.length cap] 24) = W1 := ⟨_, rfl⟩
    have hg1 : W.grownBy W1 none := by rw [← hW1]; exact World.grownBy_alloc _ _ _
    have hz1 : W1.heap.size = W.heap.size + 1 := by rw [← hW1]; simp
    have hB1 : BoxT W1 W.heap.size k n (.slice a xs.length cap) := by rw [← hW1]; exact BoxT.new _ _ _ _ _
    have hJ1 := H.grow _ _ _ h0 hg1
    have hnew := H.new _ _ h0
    obtain ⟨fn, tmps, assign, body, hy, hR⟩ := H.y 7 pre x W1 hJ1 ⟨by rw [hx]; exact hL, by rw [hx]; exact hd, by obtain ⟨zs, hzs⟩ := hp; rw [hx]; exact ⟨M.flats (d + 1) xs ++ zs, by rw [hzs, M.flat]; simp⟩⟩
    have hy' := hy
    rw [hx] at hy'
    dsimp only [encT] at hy'
    have HW1 := Lib.hid hW1
    have hflat : Hid (M.flat d (.mk k n xs) = (d, .mk k n xs) :: M.flats d1 xs) := by show _ = _; rw [M.flat, hd1e]
    rw [hflat.out]
    rw [← hW1] at hy'
    rw [hflat.out] at hp
    have HPP := Lib.hid hp
    clear hp
    clear hW1 hy hd hd1e
    refine (callsIn_wide (n := 8)).1 ?_
    refine callsIn_of_wp Tryd.func77 rfl trivial ?_ rfl
    simp only [Tryd.ntmps77, List.size_toArray, List.length_cons, List.length_nil, Nat.reduceAdd, Nat.reduceSub, Array.replicate_succ, Array.replicate_zero, List.push_toArray, List.append_toArray, List.nil_append, List.cons_append]
    gi_wp2
    rw [HW1.out]
    refine hR.mono ?_
    clear hy' hR
    rintro e W2 (⟨rfl, hon, hj2, hz2, hk2⟩ | ⟨rfl, hoff, hjx⟩)
    · have hB2 : BoxT W2 W.heap.size k n (.slice a xs.length cap) := by
        have hb := hk2 W.heap.size (by omega) (H.tn _ hnew)
        exact ⟨(World.cell?_of_block (a := ⟨W.heap.size, 0, none⟩) hb).trans hB1.c0, (World.cell?_of_block (a := ⟨W.heap.size, 1, none⟩) hb).trans hB1.c1, (World.cell?_of_block (a := ⟨W.heap.size, 2, none⟩) hb).trans hB1.c2⟩
      have c2 := hB2.c2
      gi_wp2
      gi_loopw [17] (fun i wr => ∃ (j : Nat) (ys : List El), j ≤ xs.length ∧ i = .int .i64 (j : Nat) ∧ ys.map (·.1) = M.flats d1 (xs.take j) ∧ (∀ y ∈ ys, On y) ∧ J (pre ++ [x] ++ ys) wr ∧ W2.heap.size ≤ wr.heap.size ∧ ∀ b, b < W2.heap.size → T b → wr.heap[b]? = W2.heap[b]?)
        (fun i _ => xs.length - (intOf i).toNat)
      case atStart => exact ⟨0, [], by omega, rfl, by simp [M.flats], by simp, by simpa using hj2, Nat.le_refl _, fun _ _ _ => rfl⟩
      case round =>
        obtain ⟨j, ys, hj, rfl, hys, hons, hjr, hzr, hkr⟩ := hrel
        by_cases hlt : j < xs.length
        · obtain ⟨b, o, k', m', us, au, cu, rfl, hbn, hxk, e0, e1, e2, hLu⟩ := hL.at_ hlt
          have hsx := size_ty hxk
          rw [M.Ty.mk.sizeOf_spec] at hsx
          have hlow := H.low _ _ hjr
          have g0 := (hlow.cell (p := ⟨b, o + j * 3, none⟩) hbn).trans e0
          have g1 := (hlow.cell (p := ⟨b, o + j * 3 + 1, none⟩) hbn).trans e1
          have g2 := (hlow.cell (p := ⟨b, o + j * 3 + 2, none⟩) hbn).trans e2
          have hcx := M.cntT_part (List.mem_of_getElem? hxk)
          obtain ⟨WB, hWB⟩ : ∃ WB, wr.alloc (.cells #[.int .i64 k', .int .i64 m', .slice au us.length cu] 24) = WB := ⟨_, rfl⟩
          have hgB : wr.grownBy WB none := by rw [← hWB]; exact World.grownBy_alloc _ _ _
          have HI : Hid (Calls Tryd.prog 77 #[.int .i64 (d1 : Nat), tv k' m' (.slice au us.length cu), .func (.yield l) #[] #[]] (wr.alloc (.cells #[.int .i64 k', .int .i64 m', .slice au us.length cu] 24)) (TellP T J Jx On (pre ++ [x] ++ ys) (M.flat d1 (.mk k' m' us)) (wr.alloc (.cells #[.int .i64 k', .int .i64 m', .slice au us.length cu] 24)))) :=
            ih d1 k' m' us au cu _ _ (by omega) hLu (by omega) (by
              obtain ⟨q1, hq1⟩ := HPP.out
              obtain ⟨q2, hq2⟩ := M.flats_part (d := d1) hxk
              refine ⟨q2 ++ q1, ?_⟩
              rw [hq1, hq2, hx, ← hys]
              simp) (by rw [hWB]; exact H.grow _ _ _ hjr hgB)
          have HN := Lib.hid (M.flats_next (d := d1) hxk)
          have HP := Lib.hid (M.flats_part (d := d1) hxk)
          have HWB := Lib.hid hWB
          clear hWB ih hd1c hcx hlow hL hLu hk2 e0 e1 e2 hsx
          gi_wp2_with fail
          refine ⟨trivial, (callsIn_wide.2 HI.out).mono ?_⟩
          rintro e W3 (⟨rfl, zs, hzs, honz, hj3, hz3, hk3⟩ | ⟨rfl, zs, y, ts, hzs, honz, hoff, hjx⟩)
          · clear HI
            gi_wp2
            go_roundw
            case rel =>
              refine ⟨j + 1, ys ++ zs, by omega, by simp, by rw [List.map_append, hys, hzs, HN.out], fun y hy => (List.mem_append.1 hy).elim (hons y) (honz y), by rw [← List.append_assoc]; exact hj3, by simp at hz3; omega, fun c hc hTc => ?_⟩
              have hzw := hgB.size
              exact ((hk3 c (by simp; omega) hTc).trans (by rw [HWB.out]; exact hgB.block c (by omega) (by simp))).trans (hkr c hc hTc)
            case measure => simp [intOf]; omega
          · have HX := Lib.hid hjx
            clear HI hjx
            gi_wp2
            go_ret
            obtain ⟨vs, hvs⟩ := HP.out
            refine .inr ⟨rfl, x :: (ys ++ zs), y, ts ++ vs, ?_, ?_, hoff, HX.out⟩
            · rw [hvs, hzs, ← hys, hx]
              simp
            · intro q hq
              rcases List.mem_cons.1 hq with rfl | hq
              · exact hon
              · exact (List.mem_append.1 hq).elim (hons q) (honz q)
        · obtain rfl : j = xs.length := by omega
          rw [List.take_length] at hys
          have HJ := Lib.hid hjr
          have HK := Lib.hid hkr
          clear hjr hkr
          gi_wp2
          go_ret
          refine .inl ⟨rfl, x :: ys, by rw [List.map_cons, hys, hx], ?_, by have := HJ.out; simpa using this, by omega, fun c hc hTc => ?_⟩
          · intro q hq
            rcases List.mem_cons.1 hq with rfl | hq
            · exact hon
            · exact hons q hq
          · exact (HK.out c (by omega) hTc).trans ((hk2 c (by omega) hTc).trans (hg1.block c hc (by simp)))
    · have HX := Lib.hid hjx
      clear hjx
      gi_wp2
      go_ret
      exact .inr ⟨rfl, [], x, M.flats d1 xs, by rw [hx]; rfl, by simp, hoff, HX.out⟩

theorem within_in (n : Nat) (k m : Int) (v : Value) (w : World) :
    CallsIn Fence.wide n Tryd.prog 66 #[tv k m v] w fun e w' =>
      e = .returned (.func (.func 76) #[] #[.pointer (some ⟨w.heap.size, 0, none⟩)]) ∧ w' = w.alloc (.cells #[.int .i64 k, .int .i64 m, v] 24) := by
  have hmf : ∀ (fn : Fn) (first cap : Array Value) (w : World), (Instr.makeFunc fn first cap).run Tryd.prog w = .ok (.func fn first cap) w := fun _ _ _ _ => rfl
  refine callsIn_of_wp Tryd.func66 rfl trivial ?_ rfl
  simp only [Tryd.ntmps66, List.size_toArray, List.length_cons, List.length_nil, Nat.reduceAdd, Nat.reduceSub, Array.replicate_succ, Array.replicate_zero, List.push_toArray, List.append_toArray, List.nil_append, List.cons_append]
  gi_wp2
  go_ret
  exact ⟨rfl, rfl⟩

/-- All of them are told; or one that ends it, and those ahead of it. -/
def AllOf (t : M.Ty) (On : El → Prop) (xs : List El) : Prop := xs.map (·.1) = M.flat 0 t ∧ ∀ y ∈ xs, On y
def OneOf (t : M.Ty) (On : El → Prop) (y : El) : Prop := ∃ (ys : List El) (zs : List (Nat × M.Ty)), M.flat 0 t = ys.map (·.1) ++ y.1 :: zs ∧ (∀ z ∈ ys, On z) ∧ ¬ On y

theorem within_seq (w0 : World) (T : Nat → Prop) (N0 l : Nat) (J : List El → World → Prop) (Jx : El → World → Prop) (On : El → Prop) (k n : Int) (xs : List M.Ty) (H : TellH w0 (M.flat 0 (.mk k n xs)) T N0 l J Jx On) (m : Nat)
    (a : Option Addr) (cap : Nat) (hL : LayT w0 w0.heap.size xs (.slice a xs.length cap)) (hd : M.cntT (.mk k n xs) ≤ 200) (bx : Nat) (W : World) (hB : BoxT W bx k n (.slice a xs.length cap)) (h0 : J [] W) :
    CallsIn Fence.wide m Tryd.prog 76 #[.func (.yield l) #[] #[], .pointer (some ⟨bx, 0, none⟩)] W fun e W' =>
      (∃ v, e = .returned v) ∧ ((∃ ys, AllOf (.mk k n xs) On ys ∧ J ys W') ∨ ∃ y, OneOf (.mk k n xs) On y ∧ Jx y W') := by
  have hro : Fence.wide.round = none := rfl
  have HT := Lib.hid (tell_n w0 _ T N0 l J Jx On H _ 0 k n xs a cap [] W (Nat.le_refl _) hL (by omega) ⟨[], by simp⟩ h0)
  have c0 := hB.c0
  have c1 := hB.c1
  have c2 := hB.c2
  refine callsIn_of_wp Tryd.func76 rfl trivial ?_ rfl
  simp only [Tryd.ntmps76, List.size_toArray, List.length_cons, List.length_nil, Nat.reduceAdd, Nat.reduceSub, Array.replicate_succ, Array.replicate_zero, List.push_toArray, List.append_toArray, List.nil_append, List.cons_append]
  gi_wp2_with fail
  refine ⟨trivial, fun h => (by cases h), (callsIn_wide.2 HT.out).mono ?_⟩
  rintro e W3 (⟨rfl, zs, hzs, honz, hj3, hz3, hk3⟩ | ⟨rfl, zs, y, ts, hzs, honz, hoff, hjx⟩)
  · have HJ := Lib.hid hj3
    clear hj3
    gi_wp2
    go_end0
    exact ⟨⟨_, rfl⟩, .inl ⟨zs, ⟨hzs, honz⟩, by simpa using HJ.out⟩⟩
  · have HJ := Lib.hid hjx
    clear hjx
    gi_wp2
    go_end0
    exact ⟨⟨_, rfl⟩, .inr ⟨y, ⟨zs, ts, hzs, honz, hoff⟩, HJ.out⟩⟩
end Go.Proofs.YtmlkccbhdhgoeaaDoor
