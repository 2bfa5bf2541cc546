/- Package tx: the fields of a transaction that is nought, and what leaves one of them. Package tx: a field of a kind, as three functions. -/
import Derived.Test.YtihiacbhdcahkaaGreatDoorH02
import Derived.OrdersHeld
import Derived.Deep.RegionHeld
import Derived.Shelf.Abstract
namespace Go.Proofs.YtihiacbhdcahkaaGreatDoor
open Go Go.RowKit Go.Lib
attribute [local go_sem] Oper.semAt_some

theorem setCell_id {X : World} {b i : Nat} {cs : Array Value} {t : TypeId} {fz : Nat × Nat} {v : Value} (hb : X.heap[b]? = some (.cells cs t fz)) (hv : cs[i]? = some v) : X.setCell ⟨b, i, none⟩ v = X := by
  have hs : cs.setIfInBounds i v = cs := by
    apply Array.ext_getElem?
    intro j
    rw [Array.getElem?_setIfInBounds]
    split
    · rename_i h
      subst h
      rw [hv]
      split
      · rfl
      · rename_i h2
        rw [Array.getElem?_eq_none (by omega)] at hv
        cases hv
    · rfl
  unfold World.setCell
  have hh : (X.heap.modify b fun | .cells c elem frozen => .cells (if (none : Option Nat).isSome then c else c.setIfInBounds i v) elem frozen | o => o) = X.heap := by
    apply Array.ext_getElem?
    intro j
    rw [Array.getElem?_modify]
    split
    · rename_i h
      subst h
      rw [hb]
      simp [hs]
    · rfl
  exact congrArg (fun h => ({ X with heap := h } : World)) hh
/-- The cells of a transaction that is nought, and of a V. -/
def wz (v : Int) : Array Value := #[.int .i64 0, .int .u64 0, .int .u64 0, .int .u64 0, .int .u64 0, .int .u64 0, .int .u64 0, .int .u64 0, .int .u64 0, .int .u64 0, .int .u64 0, .int .u64 0, .string ⟨#[]⟩, .int .u64 0, .int .u64 0, .int .u64 0, .int .u64 0, .string ⟨#[]⟩, .slice none 0 0, .slice none 0 0, .int .u64 0, .int .u64 0, .int .u64 0, .int .u64 0, .int .u64 0, .int .u64 0, .int .u64 0, .int .u64 0, .int .u64 0, .string ⟨#[]⟩, .string ⟨#[]⟩, .int .u64 0, .int .u64 0, .int .u64 0, .int .u64 0, .bool false, .int .u64 v]
structure Wire (X : World) (b : Nat) : Prop where
  hb : ∃ v, X.heap[b]? = some (.cells (wz v) 186 (0, 0))
theorem Wire.cell {X : World} {b : Nat} (h : Wire X b) {i : Nat} (hi : i < 36) : X.cell? ⟨b, i, none⟩ = (wz 0)[i]? := by
  obtain ⟨v, hb⟩ := h.hb
  have hi' : i = 0 ∨ i = 1 ∨ i = 2 ∨ i = 3 ∨ i = 4 ∨ i = 5 ∨ i = 6 ∨ i = 7 ∨ i = 8 ∨ i = 9 ∨ i = 10 ∨ i = 11 ∨ i = 12 ∨ i = 13 ∨ i = 14 ∨ i = 15 ∨ i = 16 ∨ i = 17 ∨ i = 18 ∨ i = 19 ∨ i = 20 ∨ i = 21 ∨ i = 22 ∨ i = 23 ∨ i = 24 ∨ i = 25 ∨ i = 26 ∨ i = 27 ∨ i = 28 ∨ i = 29 ∨ i = 30 ∨ i = 31 ∨ i = 32 ∨ i = 33 ∨ i = 34 ∨ i = 35 := by omega
  rcases hi' with rfl | rfl | rfl | rfl | rfl | rfl | rfl | rfl | rfl | rfl | rfl | rfl | rfl | rfl | rfl | rfl | rfl | rfl | rfl | rfl | rfl | rfl | rfl | rfl | rfl | rfl | rfl | rfl | rfl | rfl | rfl | rfl | rfl | rfl | rfl | rfl <;> simp [World.cell?, hb, wz]
theorem Wire.frozen {X : World} {b : Nat} (h : Wire X b) (i : Nat) : X.frozen? ⟨b, i, none⟩ = false := by
  obtain ⟨v, hb⟩ := h.hb
  simp [World.frozen?, hb]
theorem Wire.last {X : World} {b : Nat} (h : Wire X b) : ∃ v, X.cell? ⟨b, 36, none⟩ = some (.int .u64 v) := by
  obtain ⟨v, hb⟩ := h.hb
  exact ⟨v, by simp [World.cell?, hb, wz]⟩
theorem Wire.same {X : World} {b : Nat} (h : Wire X b) {i : Nat} {v : Value} (hi : i < 36) (hv : (wz 0)[i]? = some v) : X.setCell ⟨b, i, none⟩ v = X := by
  obtain ⟨u, hb⟩ := h.hb
  refine setCell_id hb ?_
  rw [← hv]
  unfold wz
  rw [Array.getElem?_eq_getElem (by simp; omega), Array.getElem?_eq_getElem (by simp; omega)]
  have hi' : i = 0 ∨ i = 1 ∨ i = 2 ∨ i = 3 ∨ i = 4 ∨ i = 5 ∨ i = 6 ∨ i = 7 ∨ i = 8 ∨ i = 9 ∨ i = 10 ∨ i = 11 ∨ i = 12 ∨ i = 13 ∨ i = 14 ∨ i = 15 ∨ i = 16 ∨ i = 17 ∨ i = 18 ∨ i = 19 ∨ i = 20 ∨ i = 21 ∨ i = 22 ∨ i = 23 ∨ i = 24 ∨ i = 25 ∨ i = 26 ∨ i = 27 ∨ i = 28 ∨ i = 29 ∨ i = 30 ∨ i = 31 ∨ i = 32 ∨ i = 33 ∨ i = 34 ∨ i = 35 := by omega
  rcases hi' with rfl | rfl | rfl | rfl | rfl | rfl | rfl | rfl | rfl | rfl | rfl | rfl | rfl | rfl | rfl | rfl | rfl | rfl | rfl | rfl | rfl | rfl | rfl | rfl | rfl | rfl | rfl | rfl | rfl | rfl | rfl | rfl | rfl | rfl | rfl | rfl <;> rfl
theorem Wire.from_ {X Y : World} {b : Nat} (h : Wire X b) (hb : Below X.heap.size X Y) : Wire Y b := by
  obtain ⟨v, e⟩ := h.hb
  exact ⟨v, (hb.block b (Array.getElem?_eq_some_iff.1 e).1).trans e⟩
theorem Wire.drew {X : World} {b : Nat} (h : Wire X b) : Wire X.drew b := ⟨h.hb⟩
theorem cell_lt {X : World} {c : Nat} {v : Value} (h : X.cell? ⟨c, 0, none⟩ = some v) : c < X.heap.size := by
  rcases Nat.lt_or_ge c X.heap.size with h1 | h1
  · exact h1
  · simp [World.cell?, Array.getElem?_eq_none h1] at h
/-- What leaving a field does. -/
def LvP (X w' : World) (b : Nat) : Prop := ∃ X', (X' = X ∨ X' = X.setCell ⟨b, 36, none⟩ (.int .u64 0)) ∧ Below X.heap.size X' w'
theorem at_1 (b : Nat) (X : World) : Calls Tryz.prog 135 #[.pointer (some ⟨b, 0, none⟩)] X fun e w' => e = .returned (.pointer (some ⟨b, 1, none⟩)) ∧ X = w' := by
  go_enter Tryz.func135, Tryz.ntmps135
  go_wp2_with fail
  go_ret
  exact ⟨rfl, rfl⟩
theorem at_2 (b : Nat) (X : World) : Calls Tryz.prog 137 #[.pointer (some ⟨b, 0, none⟩)] X fun e w' => e = .returned (.pointer (some ⟨b, 2, none⟩)) ∧ X = w' := by
  go_enter Tryz.func137, Tryz.ntmps137
  go_wp2_with fail
  go_ret
  exact ⟨rfl, rfl⟩
theorem at_3 (b : Nat) (X : World) : Calls Tryz.prog 139 #[.pointer (some ⟨b, 0, none⟩)] X fun e w' => e = .returned (.pointer (some ⟨b, 3, none⟩)) ∧ X = w' := by
  go_enter Tryz.func139, Tryz.ntmps139
  go_wp2_with fail
  go_ret
  exact ⟨rfl, rfl⟩
theorem at_4 (b : Nat) (X : World) : Calls Tryz.prog 142 #[.pointer (some ⟨b, 0, none⟩)] X fun e w' => e = .returned (.pointer (some ⟨b, 7, none⟩)) ∧ X = w' := by
  go_enter Tryz.func142, Tryz.ntmps142
  go_wp2_with fail
  go_ret
  exact ⟨rfl, rfl⟩
theorem at_5 (b : Nat) (X : World) : Calls Tryz.prog 143 #[.pointer (some ⟨b, 0, none⟩)] X fun e w' => e = .returned (.pointer (some ⟨b, 11, none⟩)) ∧ X = w' := by
  go_enter Tryz.func143, Tryz.ntmps143
  go_wp2_with fail
  go_ret
  exact ⟨rfl, rfl⟩
theorem at_6 (b : Nat) (X : World) : Calls Tryz.prog 145 #[.pointer (some ⟨b, 0, none⟩)] X fun e w' => e = .returned (.pointer (some ⟨b, 12, none⟩)) ∧ X = w' := by
  go_enter Tryz.func145, Tryz.ntmps145
  go_wp2_with fail
  go_ret
  exact ⟨rfl, rfl⟩
theorem at_7 (b : Nat) (X : World) : Calls Tryz.prog 147 #[.pointer (some ⟨b, 0, none⟩)] X fun e w' => e = .returned (.pointer (some ⟨b, 13, none⟩)) ∧ X = w' := by
  go_enter Tryz.func147, Tryz.ntmps147
  go_wp2_with fail
  go_ret
  exact ⟨rfl, rfl⟩
theorem at_8 (b : Nat) (X : World) : Calls Tryz.prog 148 #[.pointer (some ⟨b, 0, none⟩)] X fun e w' => e = .returned (.pointer (some ⟨b, 17, none⟩)) ∧ X = w' := by
  go_enter Tryz.func148, Tryz.ntmps148
  go_wp2_with fail
  go_ret
  exact ⟨rfl, rfl⟩
theorem at_9 (b : Nat) (X : World) : Calls Tryz.prog 151 #[.pointer (some ⟨b, 0, none⟩)] X fun e w' => e = .returned (.pointer (some ⟨b, 18, none⟩)) ∧ X = w' := by
  go_enter Tryz.func151, Tryz.ntmps151
  go_wp2_with fail
  go_ret
  exact ⟨rfl, rfl⟩
theorem at_10 (b : Nat) (X : World) : Calls Tryz.prog 155 #[.pointer (some ⟨b, 0, none⟩)] X fun e w' => e = .returned (.pointer (some ⟨b, 19, none⟩)) ∧ X = w' := by
  go_enter Tryz.func155, Tryz.ntmps155
  go_wp2_with fail
  go_ret
  exact ⟨rfl, rfl⟩
theorem at_11 (b : Nat) (X : World) : Calls Tryz.prog 158 #[.pointer (some ⟨b, 0, none⟩)] X fun e w' => e = .returned (.pointer (some ⟨b, 36, none⟩)) ∧ X = w' := by
  go_enter Tryz.func158, Tryz.ntmps158
  go_wp2_with fail
  go_ret
  exact ⟨rfl, rfl⟩
theorem at_12 (b : Nat) (X : World) : Calls Tryz.prog 159 #[.pointer (some ⟨b, 0, none⟩)] X fun e w' => e = .returned (.pointer (some ⟨b, 20, none⟩)) ∧ X = w' := by
  go_enter Tryz.func159, Tryz.ntmps159
  go_wp2_with fail
  go_ret
  exact ⟨rfl, rfl⟩
theorem at_13 (b : Nat) (X : World) : Calls Tryz.prog 160 #[.pointer (some ⟨b, 0, none⟩)] X fun e w' => e = .returned (.pointer (some ⟨b, 21, none⟩)) ∧ X = w' := by
  go_enter Tryz.func160, Tryz.ntmps160
  go_wp2_with fail
  go_ret
  exact ⟨rfl, rfl⟩
theorem at_14 (b : Nat) (X : World) : Calls Tryz.prog 161 #[.pointer (some ⟨b, 0, none⟩)] X fun e w' => e = .returned (.pointer (some ⟨b, 25, none⟩)) ∧ X = w' := by
  go_enter Tryz.func161, Tryz.ntmps161
  go_wp2_with fail
  go_ret
  exact ⟨rfl, rfl⟩
theorem at_15 (b : Nat) (X : World) : Calls Tryz.prog 162 #[.pointer (some ⟨b, 0, none⟩)] X fun e w' => e = .returned (.pointer (some ⟨b, 29, none⟩)) ∧ X = w' := by
  go_enter Tryz.func162, Tryz.ntmps162
  go_wp2_with fail
  go_ret
  exact ⟨rfl, rfl⟩
theorem at_16 (b : Nat) (X : World) : Calls Tryz.prog 164 #[.pointer (some ⟨b, 0, none⟩)] X fun e w' => e = .returned (.pointer (some ⟨b, 30, none⟩)) ∧ X = w' := by
  go_enter Tryz.func164, Tryz.ntmps164
  go_wp2_with fail
  go_ret
  exact ⟨rfl, rfl⟩
theorem at_17 (b : Nat) (X : World) : Calls Tryz.prog 165 #[.pointer (some ⟨b, 0, none⟩)] X fun e w' => e = .returned (.pointer (some ⟨b, 31, none⟩)) ∧ X = w' := by
  go_enter Tryz.func165, Tryz.ntmps165
  go_wp2_with fail
  go_ret
  exact ⟨rfl, rfl⟩
theorem at_18 (b : Nat) (X : World) : Calls Tryz.prog 167 #[.pointer (some ⟨b, 0, none⟩)] X fun e w' => e = .returned (.pointer (some ⟨b, 35, none⟩)) ∧ X = w' := by
  go_enter Tryz.func167, Tryz.ntmps167
  go_wp2_with fail
  go_ret
  exact ⟨rfl, rfl⟩
theorem lv_1 (b box : Nat) (X : World) (hx : X.cell? ⟨box, 0, none⟩ = some (.func (.func 135) #[] #[])) (hW : Wire X b) :
    Calls Tryz.prog 209 #[.pointer (some ⟨b, 0, none⟩), .pointer (some ⟨box, 0, none⟩)] X fun e w' => (∃ v, e = .returned v) ∧ LvP X w' b := by
  have c0 : X.cell? ⟨b, 1, none⟩ = some (.int .u64 0) := (hW.cell (i := 1) (by decide)).trans rfl
  have s0 : X.setCell ⟨b, 1, none⟩ (.int .u64 0) = X := hW.same (i := 1) (by decide) rfl
  have z0 := hW.frozen 1
  go_enter Tryz.func209, Tryz.ntmps209
  go_wp2_with fail
  refine (at_1 b X).mono ?_
  rintro e w1 ⟨rfl, rfl⟩
  go_wp2_with fail
  go_end0
  exact ⟨⟨_, rfl⟩, X, .inl rfl, Below.refl _ _⟩
theorem lv_2 (b box : Nat) (X : World) (hx : X.cell? ⟨box, 0, none⟩ = some (.func (.func 137) #[] #[])) (hW : Wire X b) :
    Calls Tryz.prog 209 #[.pointer (some ⟨b, 0, none⟩), .pointer (some ⟨box, 0, none⟩)] X fun e w' => (∃ v, e = .returned v) ∧ LvP X w' b := by
  have c0 : X.cell? ⟨b, 2, none⟩ = some (.int .u64 0) := (hW.cell (i := 2) (by decide)).trans rfl
  have s0 : X.setCell ⟨b, 2, none⟩ (.int .u64 0) = X := hW.same (i := 2) (by decide) rfl
  have z0 := hW.frozen 2
  go_enter Tryz.func209, Tryz.ntmps209
  go_wp2_with fail
  refine (at_2 b X).mono ?_
  rintro e w1 ⟨rfl, rfl⟩
  go_wp2_with fail
  go_end0
  exact ⟨⟨_, rfl⟩, X, .inl rfl, Below.refl _ _⟩
set_option maxRecDepth 100000 in
theorem lv_3 (b box : Nat) (X : World) (hx : X.cell? ⟨box, 0, none⟩ = some (.func (.func 139) #[] #[])) (hW : Wire X b) :
    Calls Tryz.prog 213 #[.pointer (some ⟨b, 0, none⟩), .pointer (some ⟨box, 0, none⟩)] X fun e w' => (∃ v, e = .returned v) ∧ LvP X w' b := by
  have mixed : Tryz.prog.follows .mixedOrders = true := by kernel_rfl
  obtain ⟨X1, hX1⟩ : ∃ X1, (X.alloc (.cells #[.int .u64 0, .int .u64 0, .int .u64 0, .int .u64 0] 89)) = X1 := ⟨_, rfl⟩
  have hb1 : Below X.heap.size X X1 := by rw [← hX1]; exact (Below.refl _ _).alloc (Nat.le_refl _) _
  have hW1 : Wire X1.drew b := (hW.from_ hb1).drew
  have hx1 : X1.drew.cell? ⟨box, 0, none⟩ = some (.func (.func 139) #[] #[]) := (hb1.cell (p := ⟨box, 0, none⟩) (cell_lt hx)).trans hx
  have n0 : X1.drew.cell? ⟨X.heap.size, 0, none⟩ = some (.int .u64 0) := by show X1.cell? _ = _; rw [← hX1]; simp [go_sem]
  have n1 : X1.drew.cell? ⟨X.heap.size, 1, none⟩ = some (.int .u64 0) := by show X1.cell? _ = _; rw [← hX1]; simp [go_sem]
  have n2 : X1.drew.cell? ⟨X.heap.size, 2, none⟩ = some (.int .u64 0) := by show X1.cell? _ = _; rw [← hX1]; simp [go_sem]
  have n3 : X1.drew.cell? ⟨X.heap.size, 3, none⟩ = some (.int .u64 0) := by show X1.cell? _ = _; rw [← hX1]; simp [go_sem]
  have HX := Lib.hid hX1
  have HB := Lib.hid hb1
  clear hX1 hb1
  have c0 : X1.drew.cell? ⟨b, 3, none⟩ = some (.int .u64 0) := (hW1.cell (i := 3) (by decide)).trans rfl
  have s0 : X1.drew.setCell ⟨b, 3, none⟩ (.int .u64 0) = X1.drew := hW1.same (i := 3) (by decide) rfl
  have z0 := hW1.frozen 3
  have c1 : X1.drew.cell? ⟨b, 4, none⟩ = some (.int .u64 0) := (hW1.cell (i := 4) (by decide)).trans rfl
  have s1 : X1.drew.setCell ⟨b, 4, none⟩ (.int .u64 0) = X1.drew := hW1.same (i := 4) (by decide) rfl
  have z1 := hW1.frozen 4
  have c2 : X1.drew.cell? ⟨b, 5, none⟩ = some (.int .u64 0) := (hW1.cell (i := 5) (by decide)).trans rfl
  have s2 : X1.drew.setCell ⟨b, 5, none⟩ (.int .u64 0) = X1.drew := hW1.same (i := 5) (by decide) rfl
  have z2 := hW1.frozen 5
  have c3 : X1.drew.cell? ⟨b, 6, none⟩ = some (.int .u64 0) := (hW1.cell (i := 6) (by decide)).trans rfl
  have s3 : X1.drew.setCell ⟨b, 6, none⟩ (.int .u64 0) = X1.drew := hW1.same (i := 6) (by decide) rfl
  have z3 := hW1.frozen 6
  go_enter Tryz.func213, Tryz.ntmps213
  go_wp2_with fail
  rw [HX.out]
  refine wp_region_held (S := fun Y => Y = X1.drew) mixed ?_
  rw [show Array.replicate (Array.size _) false = #[false, false, false, false, false, false] from rfl, show Array.size (α := Oper) _ = 6 from rfl]
  refine wpAnyH_take (i := 0) (v := .func (.func 139) #[] #[]) rfl (by kernel_rfl) (by kernel_rfl) (by kernel_rfl) (fun _ _ _ h => h) (Or.inl ⟨by rfl, ?_⟩) rfl ?_
  · intro Y hY
    subst hY
    go_simp
  simp only [Act.put, List.getElem_toArray, List.getElem_cons_zero, List.setIfInBounds_toArray, List.set_cons_zero, List.set_cons_succ]
  refine wpAnyH_take (i := 1) (v := .pointer (some ⟨b, 0, none⟩)) rfl (by kernel_rfl) (by kernel_rfl) (by kernel_rfl) (fun _ _ _ h => h) (Or.inl ⟨by rfl, ?_⟩) rfl ?_
  · intro Y hY
    skip
    go_simp
  simp only [Act.put, List.getElem_toArray, List.getElem_cons_succ, List.getElem_cons_zero, List.setIfInBounds_toArray, List.set_cons_zero, List.set_cons_succ]
  refine wpAnyH_take (i := 3) (v := .agg #[.int .u64 0, .int .u64 0, .int .u64 0, .int .u64 0]) rfl (by kernel_rfl) (by kernel_rfl) (by kernel_rfl) (fun _ _ _ h => h) (Or.inl ⟨by rfl, ?_⟩) rfl ?_
  · intro Y hY
    subst hY
    go_simp
  simp only [Act.put, List.getElem_toArray, List.getElem_cons_succ, List.getElem_cons_zero, List.setIfInBounds_toArray, List.set_cons_zero, List.set_cons_succ]
  refine wpAnyH_ready (rs := [2]) (by kernel_rfl) (by simp) ?_
  refine AllReadyH.cons rfl (fun K hK => ?_) AllReadyH.nil
  go_simp
  refine (at_3 b _).mono ?_
  rintro e w1 ⟨rfl, rfl⟩
  try go_wp2_with fail
  refine hK.out _ _ rfl (fun _ => ?_)
  clear hK K
  simp only [List.setIfInBounds_toArray, List.set_cons_zero, List.set_cons_succ]
  refine wpAnyH_ready (rs := [4]) (by kernel_rfl) (by simp) ?_
  refine AllReadyH.cons rfl (fun K hK => ?_) AllReadyH.nil
  go_simp
  refine hK.out _ _ rfl (fun _ => ?_)
  clear hK K
  simp only [List.setIfInBounds_toArray, List.set_cons_zero, List.set_cons_succ]
  refine wpAnyH_ready (rs := [5]) (by kernel_rfl) (by simp) ?_
  refine AllReadyH.cons rfl (fun K hK => ?_) AllReadyH.nil
  go_simp

  refine hK.out _ _ (by first | rfl | simp only [s0, s1, s2, s3]) (fun _ => ?_)
  clear hK K
  simp only [List.setIfInBounds_toArray, List.set_cons_zero, List.set_cons_succ]
  refine wpAnyH_done (by kernel_rfl) ?_ _
  go_wp2_with fail
  go_end0
  exact ⟨⟨_, rfl⟩, X, .inl rfl, HB.out.drew⟩
set_option maxRecDepth 100000 in
theorem lv_4 (b box : Nat) (X : World) (hx : X.cell? ⟨box, 0, none⟩ = some (.func (.func 142) #[] #[])) (hW : Wire X b) :
    Calls Tryz.prog 213 #[.pointer (some ⟨b, 0, none⟩), .pointer (some ⟨box, 0, none⟩)] X fun e w' => (∃ v, e = .returned v) ∧ LvP X w' b := by
  have mixed : Tryz.prog.follows .mixedOrders = true := by kernel_rfl
  obtain ⟨X1, hX1⟩ : ∃ X1, (X.alloc (.cells #[.int .u64 0, .int .u64 0, .int .u64 0, .int .u64 0] 89)) = X1 := ⟨_, rfl⟩
  have hb1 : Below X.heap.size X X1 := by rw [← hX1]; exact (Below.refl _ _).alloc (Nat.le_refl _) _
  have hW1 : Wire X1.drew b := (hW.from_ hb1).drew
  have hx1 : X1.drew.cell? ⟨box, 0, none⟩ = some (.func (.func 142) #[] #[]) := (hb1.cell (p := ⟨box, 0, none⟩) (cell_lt hx)).trans hx
  have n0 : X1.drew.cell? ⟨X.heap.size, 0, none⟩ = some (.int .u64 0) := by show X1.cell? _ = _; rw [← hX1]; simp [go_sem]
  have n1 : X1.drew.cell? ⟨X.heap.size, 1, none⟩ = some (.int .u64 0) := by show X1.cell? _ = _; rw [← hX1]; simp [go_sem]
  have n2 : X1.drew.cell? ⟨X.heap.size, 2, none⟩ = some (.int .u64 0) := by show X1.cell? _ = _; rw [← hX1]; simp [go_sem]
  have n3 : X1.drew.cell? ⟨X.heap.size, 3, none⟩ = some (.int .u64 0) := by show X1.cell? _ = _; rw [← hX1]; simp [go_sem]
  have HX := Lib.hid hX1
  have HB := Lib.hid hb1
  clear hX1 hb1
  have c0 : X1.drew.cell? ⟨b, 7, none⟩ = some (.int .u64 0) := (hW1.cell (i := 7) (by decide)).trans rfl
  have s0 : X1.drew.setCell ⟨b, 7, none⟩ (.int .u64 0) = X1.drew := hW1.same (i := 7) (by decide) rfl
  have z0 := hW1.frozen 7
  have c1 : X1.drew.cell? ⟨b, 8, none⟩ = some (.int .u64 0) := (hW1.cell (i := 8) (by decide)).trans rfl
  have s1 : X1.drew.setCell ⟨b, 8, none⟩ (.int .u64 0) = X1.drew := hW1.same (i := 8) (by decide) rfl
  have z1 := hW1.frozen 8
  have c2 : X1.drew.cell? ⟨b, 9, none⟩ = some (.int .u64 0) := (hW1.cell (i := 9) (by decide)).trans rfl
  have s2 : X1.drew.setCell ⟨b, 9, none⟩ (.int .u64 0) = X1.drew := hW1.same (i := 9) (by decide) rfl
  have z2 := hW1.frozen 9
  have c3 : X1.drew.cell? ⟨b, 10, none⟩ = some (.int .u64 0) := (hW1.cell (i := 10) (by decide)).trans rfl
  have s3 : X1.drew.setCell ⟨b, 10, none⟩ (.int .u64 0) = X1.drew := hW1.same (i := 10) (by decide) rfl
  have z3 := hW1.frozen 10
  go_enter Tryz.func213, Tryz.ntmps213
  go_wp2_with fail
  rw [HX.out]
  refine wp_region_held (S := fun Y => Y = X1.drew) mixed ?_
  rw [show Array.replicate (Array.size _) false = #[false, false, false, false, false, false] from rfl, show Array.size (α := Oper) _ = 6 from rfl]
  refine wpAnyH_take (i := 0) (v := .func (.func 142) #[] #[]) rfl (by kernel_rfl) (by kernel_rfl) (by kernel_rfl) (fun _ _ _ h => h) (Or.inl ⟨by rfl, ?_⟩) rfl ?_
  · intro Y hY
    subst hY
    go_simp
  simp only [Act.put, List.getElem_toArray, List.getElem_cons_zero, List.setIfInBounds_toArray, List.set_cons_zero, List.set_cons_succ]
  refine wpAnyH_take (i := 1) (v := .pointer (some ⟨b, 0, none⟩)) rfl (by kernel_rfl) (by kernel_rfl) (by kernel_rfl) (fun _ _ _ h => h) (Or.inl ⟨by rfl, ?_⟩) rfl ?_
  · intro Y hY
    skip
    go_simp
  simp only [Act.put, List.getElem_toArray, List.getElem_cons_succ, List.getElem_cons_zero, List.setIfInBounds_toArray, List.set_cons_zero, List.set_cons_succ]
  refine wpAnyH_take (i := 3) (v := .agg #[.int .u64 0, .int .u64 0, .int .u64 0, .int .u64 0]) rfl (by kernel_rfl) (by kernel_rfl) (by kernel_rfl) (fun _ _ _ h => h) (Or.inl ⟨by rfl, ?_⟩) rfl ?_
  · intro Y hY
    subst hY
    go_simp
  simp only [Act.put, List.getElem_toArray, List.getElem_cons_succ, List.getElem_cons_zero, List.setIfInBounds_toArray, List.set_cons_zero, List.set_cons_succ]
  refine wpAnyH_ready (rs := [2]) (by kernel_rfl) (by simp) ?_
  refine AllReadyH.cons rfl (fun K hK => ?_) AllReadyH.nil
  go_simp
  refine (at_4 b _).mono ?_
  rintro e w1 ⟨rfl, rfl⟩
  try go_wp2_with fail
  refine hK.out _ _ rfl (fun _ => ?_)
  clear hK K
  simp only [List.setIfInBounds_toArray, List.set_cons_zero, List.set_cons_succ]
  refine wpAnyH_ready (rs := [4]) (by kernel_rfl) (by simp) ?_
  refine AllReadyH.cons rfl (fun K hK => ?_) AllReadyH.nil
  go_simp
  refine hK.out _ _ rfl (fun _ => ?_)
  clear hK K
  simp only [List.setIfInBounds_toArray, List.set_cons_zero, List.set_cons_succ]
  refine wpAnyH_ready (rs := [5]) (by kernel_rfl) (by simp) ?_
  refine AllReadyH.cons rfl (fun K hK => ?_) AllReadyH.nil
  go_simp

  refine hK.out _ _ (by first | rfl | simp only [s0, s1, s2, s3]) (fun _ => ?_)
  clear hK K
  simp only [List.setIfInBounds_toArray, List.set_cons_zero, List.set_cons_succ]
  refine wpAnyH_done (by kernel_rfl) ?_ _
  go_wp2_with fail
  go_end0
  exact ⟨⟨_, rfl⟩, X, .inl rfl, HB.out.drew⟩
theorem lv_5 (b box : Nat) (X : World) (hx : X.cell? ⟨box, 0, none⟩ = some (.func (.func 143) #[] #[])) (hW : Wire X b) :
    Calls Tryz.prog 209 #[.pointer (some ⟨b, 0, none⟩), .pointer (some ⟨box, 0, none⟩)] X fun e w' => (∃ v, e = .returned v) ∧ LvP X w' b := by
  have c0 : X.cell? ⟨b, 11, none⟩ = some (.int .u64 0) := (hW.cell (i := 11) (by decide)).trans rfl
  have s0 : X.setCell ⟨b, 11, none⟩ (.int .u64 0) = X := hW.same (i := 11) (by decide) rfl
  have z0 := hW.frozen 11
  go_enter Tryz.func209, Tryz.ntmps209
  go_wp2_with fail
  refine (at_5 b X).mono ?_
  rintro e w1 ⟨rfl, rfl⟩
  go_wp2_with fail
  go_end0
  exact ⟨⟨_, rfl⟩, X, .inl rfl, Below.refl _ _⟩
theorem lv_6 (b box : Nat) (X : World) (hx : X.cell? ⟨box, 0, none⟩ = some (.func (.func 145) #[] #[])) (hW : Wire X b) :
    Calls Tryz.prog 218 #[.pointer (some ⟨b, 0, none⟩), .pointer (some ⟨box, 0, none⟩)] X fun e w' => (∃ v, e = .returned v) ∧ LvP X w' b := by
  have c0 : X.cell? ⟨b, 12, none⟩ = some (.string ⟨#[]⟩) := (hW.cell (i := 12) (by decide)).trans rfl
  have s0 : X.setCell ⟨b, 12, none⟩ (.string ⟨#[]⟩) = X := hW.same (i := 12) (by decide) rfl
  have z0 := hW.frozen 12
  go_enter Tryz.func218, Tryz.ntmps218
  go_wp2_with fail
  refine (at_6 b X).mono ?_
  rintro e w1 ⟨rfl, rfl⟩
  go_wp2_with fail
  go_end0
  exact ⟨⟨_, rfl⟩, X, .inl rfl, Below.refl _ _⟩
set_option maxRecDepth 100000 in
theorem lv_7 (b box : Nat) (X : World) (hx : X.cell? ⟨box, 0, none⟩ = some (.func (.func 147) #[] #[])) (hW : Wire X b) :
    Calls Tryz.prog 213 #[.pointer (some ⟨b, 0, none⟩), .pointer (some ⟨box, 0, none⟩)] X fun e w' => (∃ v, e = .returned v) ∧ LvP X w' b := by
  have mixed : Tryz.prog.follows .mixedOrders = true := by kernel_rfl
  obtain ⟨X1, hX1⟩ : ∃ X1, (X.alloc (.cells #[.int .u64 0, .int .u64 0, .int .u64 0, .int .u64 0] 89)) = X1 := ⟨_, rfl⟩
  have hb1 : Below X.heap.size X X1 := by rw [← hX1]; exact (Below.refl _ _).alloc (Nat.le_refl _) _
  have hW1 : Wire X1.drew b := (hW.from_ hb1).drew
  have hx1 : X1.drew.cell? ⟨box, 0, none⟩ = some (.func (.func 147) #[] #[]) := (hb1.cell (p := ⟨box, 0, none⟩) (cell_lt hx)).trans hx
  have n0 : X1.drew.cell? ⟨X.heap.size, 0, none⟩ = some (.int .u64 0) := by show X1.cell? _ = _; rw [← hX1]; simp [go_sem]
  have n1 : X1.drew.cell? ⟨X.heap.size, 1, none⟩ = some (.int .u64 0) := by show X1.cell? _ = _; rw [← hX1]; simp [go_sem]
  have n2 : X1.drew.cell? ⟨X.heap.size, 2, none⟩ = some (.int .u64 0) := by show X1.cell? _ = _; rw [← hX1]; simp [go_sem]
  have n3 : X1.drew.cell? ⟨X.heap.size, 3, none⟩ = some (.int .u64 0) := by show X1.cell? _ = _; rw [← hX1]; simp [go_sem]
  have HX := Lib.hid hX1
  have HB := Lib.hid hb1
  clear hX1 hb1
  have c0 : X1.drew.cell? ⟨b, 13, none⟩ = some (.int .u64 0) := (hW1.cell (i := 13) (by decide)).trans rfl
  have s0 : X1.drew.setCell ⟨b, 13, none⟩ (.int .u64 0) = X1.drew := hW1.same (i := 13) (by decide) rfl
  have z0 := hW1.frozen 13
  have c1 : X1.drew.cell? ⟨b, 14, none⟩ = some (.int .u64 0) := (hW1.cell (i := 14) (by decide)).trans rfl
  have s1 : X1.drew.setCell ⟨b, 14, none⟩ (.int .u64 0) = X1.drew := hW1.same (i := 14) (by decide) rfl
  have z1 := hW1.frozen 14
  have c2 : X1.drew.cell? ⟨b, 15, none⟩ = some (.int .u64 0) := (hW1.cell (i := 15) (by decide)).trans rfl
  have s2 : X1.drew.setCell ⟨b, 15, none⟩ (.int .u64 0) = X1.drew := hW1.same (i := 15) (by decide) rfl
  have z2 := hW1.frozen 15
  have c3 : X1.drew.cell? ⟨b, 16, none⟩ = some (.int .u64 0) := (hW1.cell (i := 16) (by decide)).trans rfl
  have s3 : X1.drew.setCell ⟨b, 16, none⟩ (.int .u64 0) = X1.drew := hW1.same (i := 16) (by decide) rfl
  have z3 := hW1.frozen 16
  go_enter Tryz.func213, Tryz.ntmps213
  go_wp2_with fail
  rw [HX.out]
  refine wp_region_held (S := fun Y => Y = X1.drew) mixed ?_
  rw [show Array.replicate (Array.size _) false = #[false, false, false, false, false, false] from rfl, show Array.size (α := Oper) _ = 6 from rfl]
  refine wpAnyH_take (i := 0) (v := .func (.func 147) #[] #[]) rfl (by kernel_rfl) (by kernel_rfl) (by kernel_rfl) (fun _ _ _ h => h) (Or.inl ⟨by rfl, ?_⟩) rfl ?_
  · intro Y hY
    subst hY
    go_simp
  simp only [Act.put, List.getElem_toArray, List.getElem_cons_zero, List.setIfInBounds_toArray, List.set_cons_zero, List.set_cons_succ]
  refine wpAnyH_take (i := 1) (v := .pointer (some ⟨b, 0, none⟩)) rfl (by kernel_rfl) (by kernel_rfl) (by kernel_rfl) (fun _ _ _ h => h) (Or.inl ⟨by rfl, ?_⟩) rfl ?_
  · intro Y hY
    skip
    go_simp
  simp only [Act.put, List.getElem_toArray, List.getElem_cons_succ, List.getElem_cons_zero, List.setIfInBounds_toArray, List.set_cons_zero, List.set_cons_succ]
  refine wpAnyH_take (i := 3) (v := .agg #[.int .u64 0, .int .u64 0, .int .u64 0, .int .u64 0]) rfl (by kernel_rfl) (by kernel_rfl) (by kernel_rfl) (fun _ _ _ h => h) (Or.inl ⟨by rfl, ?_⟩) rfl ?_
  · intro Y hY
    subst hY
    go_simp
  simp only [Act.put, List.getElem_toArray, List.getElem_cons_succ, List.getElem_cons_zero, List.setIfInBounds_toArray, List.set_cons_zero, List.set_cons_succ]
  refine wpAnyH_ready (rs := [2]) (by kernel_rfl) (by simp) ?_
  refine AllReadyH.cons rfl (fun K hK => ?_) AllReadyH.nil
  go_simp
  refine (at_7 b _).mono ?_
  rintro e w1 ⟨rfl, rfl⟩
  try go_wp2_with fail
  refine hK.out _ _ rfl (fun _ => ?_)
  clear hK K
  simp only [List.setIfInBounds_toArray, List.set_cons_zero, List.set_cons_succ]
  refine wpAnyH_ready (rs := [4]) (by kernel_rfl) (by simp) ?_
  refine AllReadyH.cons rfl (fun K hK => ?_) AllReadyH.nil
  go_simp
  refine hK.out _ _ rfl (fun _ => ?_)
  clear hK K
  simp only [List.setIfInBounds_toArray, List.set_cons_zero, List.set_cons_succ]
  refine wpAnyH_ready (rs := [5]) (by kernel_rfl) (by simp) ?_
  refine AllReadyH.cons rfl (fun K hK => ?_) AllReadyH.nil
  go_simp

  refine hK.out _ _ (by first | rfl | simp only [s0, s1, s2, s3]) (fun _ => ?_)
  clear hK K
  simp only [List.setIfInBounds_toArray, List.set_cons_zero, List.set_cons_succ]
  refine wpAnyH_done (by kernel_rfl) ?_ _
  go_wp2_with fail
  go_end0
  exact ⟨⟨_, rfl⟩, X, .inl rfl, HB.out.drew⟩
theorem lv_8 (b box : Nat) (X : World) (hx : X.cell? ⟨box, 0, none⟩ = some (.func (.func 148) #[] #[])) (hW : Wire X b) :
    Calls Tryz.prog 218 #[.pointer (some ⟨b, 0, none⟩), .pointer (some ⟨box, 0, none⟩)] X fun e w' => (∃ v, e = .returned v) ∧ LvP X w' b := by
  have c0 : X.cell? ⟨b, 17, none⟩ = some (.string ⟨#[]⟩) := (hW.cell (i := 17) (by decide)).trans rfl
  have s0 : X.setCell ⟨b, 17, none⟩ (.string ⟨#[]⟩) = X := hW.same (i := 17) (by decide) rfl
  have z0 := hW.frozen 17
  go_enter Tryz.func218, Tryz.ntmps218
  go_wp2_with fail
  refine (at_8 b X).mono ?_
  rintro e w1 ⟨rfl, rfl⟩
  go_wp2_with fail
  go_end0
  exact ⟨⟨_, rfl⟩, X, .inl rfl, Below.refl _ _⟩
theorem lv_9 (b box : Nat) (X : World) (hx : X.cell? ⟨box, 0, none⟩ = some (.func (.func 151) #[] #[])) (hW : Wire X b) :
    Calls Tryz.prog 224 #[.pointer (some ⟨b, 0, none⟩), .pointer (some ⟨box, 0, none⟩)] X fun e w' => (∃ v, e = .returned v) ∧ LvP X w' b := by
  have c0 : X.cell? ⟨b, 18, none⟩ = some (.slice none 0 0) := (hW.cell (i := 18) (by decide)).trans rfl
  have s0 : X.setCell ⟨b, 18, none⟩ (.slice none 0 0) = X := hW.same (i := 18) (by decide) rfl
  have z0 := hW.frozen 18
  go_enter Tryz.func224, Tryz.ntmps224
  go_wp2_with fail
  refine (at_9 b X).mono ?_
  rintro e w1 ⟨rfl, rfl⟩
  go_wp2_with fail
  go_end0
  exact ⟨⟨_, rfl⟩, X, .inl rfl, Below.refl _ _⟩
theorem lv_10 (b box : Nat) (X : World) (hx : X.cell? ⟨box, 0, none⟩ = some (.func (.func 155) #[] #[])) (hW : Wire X b) :
    Calls Tryz.prog 231 #[.pointer (some ⟨b, 0, none⟩), .pointer (some ⟨box, 0, none⟩)] X fun e w' => (∃ v, e = .returned v) ∧ LvP X w' b := by
  have c0 : X.cell? ⟨b, 19, none⟩ = some (.slice none 0 0) := (hW.cell (i := 19) (by decide)).trans rfl
  have s0 : X.setCell ⟨b, 19, none⟩ (.slice none 0 0) = X := hW.same (i := 19) (by decide) rfl
  have z0 := hW.frozen 19
  go_enter Tryz.func231, Tryz.ntmps231
  go_wp2_with fail
  refine (at_10 b X).mono ?_
  rintro e w1 ⟨rfl, rfl⟩
  go_wp2_with fail
  go_end0
  exact ⟨⟨_, rfl⟩, X, .inl rfl, Below.refl _ _⟩
theorem lv_11 (b box : Nat) (X : World) (hx : X.cell? ⟨box, 0, none⟩ = some (.func (.func 158) #[] #[])) (hW : Wire X b) :
    Calls Tryz.prog 209 #[.pointer (some ⟨b, 0, none⟩), .pointer (some ⟨box, 0, none⟩)] X fun e w' => (∃ v, e = .returned v) ∧ LvP X w' b := by
  obtain ⟨vv, c0⟩ := hW.last
  have z0 := hW.frozen 36
  go_enter Tryz.func209, Tryz.ntmps209
  go_wp2_with fail
  refine (at_11 b X).mono ?_
  rintro e w1 ⟨rfl, rfl⟩
  go_wp2_with fail
  go_end0
  exact ⟨⟨_, rfl⟩, _, .inr rfl, by have := Below.refl (X.setCell ⟨b, 36, none⟩ (.int .u64 0)).heap.size (X.setCell ⟨b, 36, none⟩ (.int .u64 0)); simpa using this⟩
theorem lv_12 (b box : Nat) (X : World) (hx : X.cell? ⟨box, 0, none⟩ = some (.func (.func 159) #[] #[])) (hW : Wire X b) :
    Calls Tryz.prog 209 #[.pointer (some ⟨b, 0, none⟩), .pointer (some ⟨box, 0, none⟩)] X fun e w' => (∃ v, e = .returned v) ∧ LvP X w' b := by
  have c0 : X.cell? ⟨b, 20, none⟩ = some (.int .u64 0) := (hW.cell (i := 20) (by decide)).trans rfl
  have s0 : X.setCell ⟨b, 20, none⟩ (.int .u64 0) = X := hW.same (i := 20) (by decide) rfl
  have z0 := hW.frozen 20
  go_enter Tryz.func209, Tryz.ntmps209
  go_wp2_with fail
  refine (at_12 b X).mono ?_
  rintro e w1 ⟨rfl, rfl⟩
  go_wp2_with fail
  go_end0
  exact ⟨⟨_, rfl⟩, X, .inl rfl, Below.refl _ _⟩
set_option maxRecDepth 100000 in
theorem lv_13 (b box : Nat) (X : World) (hx : X.cell? ⟨box, 0, none⟩ = some (.func (.func 160) #[] #[])) (hW : Wire X b) :
    Calls Tryz.prog 213 #[.pointer (some ⟨b, 0, none⟩), .pointer (some ⟨box, 0, none⟩)] X fun e w' => (∃ v, e = .returned v) ∧ LvP X w' b := by
  have mixed : Tryz.prog.follows .mixedOrders = true := by kernel_rfl
  obtain ⟨X1, hX1⟩ : ∃ X1, (X.alloc (.cells #[.int .u64 0, .int .u64 0, .int .u64 0, .int .u64 0] 89)) = X1 := ⟨_, rfl⟩
  have hb1 : Below X.heap.size X X1 := by rw [← hX1]; exact (Below.refl _ _).alloc (Nat.le_refl _) _
  have hW1 : Wire X1.drew b := (hW.from_ hb1).drew
  have hx1 : X1.drew.cell? ⟨box, 0, none⟩ = some (.func (.func 160) #[] #[]) := (hb1.cell (p := ⟨box, 0, none⟩) (cell_lt hx)).trans hx
  have n0 : X1.drew.cell? ⟨X.heap.size, 0, none⟩ = some (.int .u64 0) := by show X1.cell? _ = _; rw [← hX1]; simp [go_sem]
  have n1 : X1.drew.cell? ⟨X.heap.size, 1, none⟩ = some (.int .u64 0) := by show X1.cell? _ = _; rw [← hX1]; simp [go_sem]
  have n2 : X1.drew.cell? ⟨X.heap.size, 2, none⟩ = some (.int .u64 0) := by show X1.cell? _ = _; rw [← hX1]; simp [go_sem]
  have n3 : X1.drew.cell? ⟨X.heap.size, 3, none⟩ = some (.int .u64 0) := by show X1.cell? _ = _; rw [← hX1]; simp [go_sem]
  have HX := Lib.hid hX1
  have HB := Lib.hid hb1
  clear hX1 hb1
  have c0 : X1.drew.cell? ⟨b, 21, none⟩ = some (.int .u64 0) := (hW1.cell (i := 21) (by decide)).trans rfl
  have s0 : X1.drew.setCell ⟨b, 21, none⟩ (.int .u64 0) = X1.drew := hW1.same (i := 21) (by decide) rfl
  have z0 := hW1.frozen 21
  have c1 : X1.drew.cell? ⟨b, 22, none⟩ = some (.int .u64 0) := (hW1.cell (i := 22) (by decide)).trans rfl
  have s1 : X1.drew.setCell ⟨b, 22, none⟩ (.int .u64 0) = X1.drew := hW1.same (i := 22) (by decide) rfl
  have z1 := hW1.frozen 22
  have c2 : X1.drew.cell? ⟨b, 23, none⟩ = some (.int .u64 0) := (hW1.cell (i := 23) (by decide)).trans rfl
  have s2 : X1.drew.setCell ⟨b, 23, none⟩ (.int .u64 0) = X1.drew := hW1.same (i := 23) (by decide) rfl
  have z2 := hW1.frozen 23
  have c3 : X1.drew.cell? ⟨b, 24, none⟩ = some (.int .u64 0) := (hW1.cell (i := 24) (by decide)).trans rfl
  have s3 : X1.drew.setCell ⟨b, 24, none⟩ (.int .u64 0) = X1.drew := hW1.same (i := 24) (by decide) rfl
  have z3 := hW1.frozen 24
  go_enter Tryz.func213, Tryz.ntmps213
  go_wp2_with fail
  rw [HX.out]
  refine wp_region_held (S := fun Y => Y = X1.drew) mixed ?_
  rw [show Array.replicate (Array.size _) false = #[false, false, false, false, false, false] from rfl, show Array.size (α := Oper) _ = 6 from rfl]
  refine wpAnyH_take (i := 0) (v := .func (.func 160) #[] #[]) rfl (by kernel_rfl) (by kernel_rfl) (by kernel_rfl) (fun _ _ _ h => h) (Or.inl ⟨by rfl, ?_⟩) rfl ?_
  · intro Y hY
    subst hY
    go_simp
  simp only [Act.put, List.getElem_toArray, List.getElem_cons_zero, List.setIfInBounds_toArray, List.set_cons_zero, List.set_cons_succ]
  refine wpAnyH_take (i := 1) (v := .pointer (some ⟨b, 0, none⟩)) rfl (by kernel_rfl) (by kernel_rfl) (by kernel_rfl) (fun _ _ _ h => h) (Or.inl ⟨by rfl, ?_⟩) rfl ?_
  · intro Y hY
    skip
    go_simp
  simp only [Act.put, List.getElem_toArray, List.getElem_cons_succ, List.getElem_cons_zero, List.setIfInBounds_toArray, List.set_cons_zero, List.set_cons_succ]
  refine wpAnyH_take (i := 3) (v := .agg #[.int .u64 0, .int .u64 0, .int .u64 0, .int .u64 0]) rfl (by kernel_rfl) (by kernel_rfl) (by kernel_rfl) (fun _ _ _ h => h) (Or.inl ⟨by rfl, ?_⟩) rfl ?_
  · intro Y hY
    subst hY
    go_simp
  simp only [Act.put, List.getElem_toArray, List.getElem_cons_succ, List.getElem_cons_zero, List.setIfInBounds_toArray, List.set_cons_zero, List.set_cons_succ]
  refine wpAnyH_ready (rs := [2]) (by kernel_rfl) (by simp) ?_
  refine AllReadyH.cons rfl (fun K hK => ?_) AllReadyH.nil
  go_simp
  refine (at_13 b _).mono ?_
  rintro e w1 ⟨rfl, rfl⟩
  try go_wp2_with fail
  refine hK.out _ _ rfl (fun _ => ?_)
  clear hK K
  simp only [List.setIfInBounds_toArray, List.set_cons_zero, List.set_cons_succ]
  refine wpAnyH_ready (rs := [4]) (by kernel_rfl) (by simp) ?_
  refine AllReadyH.cons rfl (fun K hK => ?_) AllReadyH.nil
  go_simp
  refine hK.out _ _ rfl (fun _ => ?_)
  clear hK K
  simp only [List.setIfInBounds_toArray, List.set_cons_zero, List.set_cons_succ]
  refine wpAnyH_ready (rs := [5]) (by kernel_rfl) (by simp) ?_
  refine AllReadyH.cons rfl (fun K hK => ?_) AllReadyH.nil
  go_simp

  refine hK.out _ _ (by first | rfl | simp only [s0, s1, s2, s3]) (fun _ => ?_)
  clear hK K
  simp only [List.setIfInBounds_toArray, List.set_cons_zero, List.set_cons_succ]
  refine wpAnyH_done (by kernel_rfl) ?_ _
  go_wp2_with fail
  go_end0
  exact ⟨⟨_, rfl⟩, X, .inl rfl, HB.out.drew⟩
set_option maxRecDepth 100000 in
theorem lv_14 (b box : Nat) (X : World) (hx : X.cell? ⟨box, 0, none⟩ = some (.func (.func 161) #[] #[])) (hW : Wire X b) :
    Calls Tryz.prog 213 #[.pointer (some ⟨b, 0, none⟩), .pointer (some ⟨box, 0, none⟩)] X fun e w' => (∃ v, e = .returned v) ∧ LvP X w' b := by
  have mixed : Tryz.prog.follows .mixedOrders = true := by kernel_rfl
  obtain ⟨X1, hX1⟩ : ∃ X1, (X.alloc (.cells #[.int .u64 0, .int .u64 0, .int .u64 0, .int .u64 0] 89)) = X1 := ⟨_, rfl⟩
  have hb1 : Below X.heap.size X X1 := by rw [← hX1]; exact (Below.refl _ _).alloc (Nat.le_refl _) _
  have hW1 : Wire X1.drew b := (hW.from_ hb1).drew
  have hx1 : X1.drew.cell? ⟨box, 0, none⟩ = some (.func (.func 161) #[] #[]) := (hb1.cell (p := ⟨box, 0, none⟩) (cell_lt hx)).trans hx
  have n0 : X1.drew.cell? ⟨X.heap.size, 0, none⟩ = some (.int .u64 0) := by show X1.cell? _ = _; rw [← hX1]; simp [go_sem]
  have n1 : X1.drew.cell? ⟨X.heap.size, 1, none⟩ = some (.int .u64 0) := by show X1.cell? _ = _; rw [← hX1]; simp [go_sem]
  have n2 : X1.drew.cell? ⟨X.heap.size, 2, none⟩ = some (.int .u64 0) := by show X1.cell? _ = _; rw [← hX1]; simp [go_sem]
  have n3 : X1.drew.cell? ⟨X.heap.size, 3, none⟩ = some (.int .u64 0) := by show X1.cell? _ = _; rw [← hX1]; simp [go_sem]
  have HX := Lib.hid hX1
  have HB := Lib.hid hb1
  clear hX1 hb1
  have c0 : X1.drew.cell? ⟨b, 25, none⟩ = some (.int .u64 0) := (hW1.cell (i := 25) (by decide)).trans rfl
  have s0 : X1.drew.setCell ⟨b, 25, none⟩ (.int .u64 0) = X1.drew := hW1.same (i := 25) (by decide) rfl
  have z0 := hW1.frozen 25
  have c1 : X1.drew.cell? ⟨b, 26, none⟩ = some (.int .u64 0) := (hW1.cell (i := 26) (by decide)).trans rfl
  have s1 : X1.drew.setCell ⟨b, 26, none⟩ (.int .u64 0) = X1.drew := hW1.same (i := 26) (by decide) rfl
  have z1 := hW1.frozen 26
  have c2 : X1.drew.cell? ⟨b, 27, none⟩ = some (.int .u64 0) := (hW1.cell (i := 27) (by decide)).trans rfl
  have s2 : X1.drew.setCell ⟨b, 27, none⟩ (.int .u64 0) = X1.drew := hW1.same (i := 27) (by decide) rfl
  have z2 := hW1.frozen 27
  have c3 : X1.drew.cell? ⟨b, 28, none⟩ = some (.int .u64 0) := (hW1.cell (i := 28) (by decide)).trans rfl
  have s3 : X1.drew.setCell ⟨b, 28, none⟩ (.int .u64 0) = X1.drew := hW1.same (i := 28) (by decide) rfl
  have z3 := hW1.frozen 28
  go_enter Tryz.func213, Tryz.ntmps213
  go_wp2_with fail
  rw [HX.out]
  refine wp_region_held (S := fun Y => Y = X1.drew) mixed ?_
  rw [show Array.replicate (Array.size _) false = #[false, false, false, false, false, false] from rfl, show Array.size (α := Oper) _ = 6 from rfl]
  refine wpAnyH_take (i := 0) (v := .func (.func 161) #[] #[]) rfl (by kernel_rfl) (by kernel_rfl) (by kernel_rfl) (fun _ _ _ h => h) (Or.inl ⟨by rfl, ?_⟩) rfl ?_
  · intro Y hY
    subst hY
    go_simp
  simp only [Act.put, List.getElem_toArray, List.getElem_cons_zero, List.setIfInBounds_toArray, List.set_cons_zero, List.set_cons_succ]
  refine wpAnyH_take (i := 1) (v := .pointer (some ⟨b, 0, none⟩)) rfl (by kernel_rfl) (by kernel_rfl) (by kernel_rfl) (fun _ _ _ h => h) (Or.inl ⟨by rfl, ?_⟩) rfl ?_
  · intro Y hY
    skip
    go_simp
  simp only [Act.put, List.getElem_toArray, List.getElem_cons_succ, List.getElem_cons_zero, List.setIfInBounds_toArray, List.set_cons_zero, List.set_cons_succ]
  refine wpAnyH_take (i := 3) (v := .agg #[.int .u64 0, .int .u64 0, .int .u64 0, .int .u64 0]) rfl (by kernel_rfl) (by kernel_rfl) (by kernel_rfl) (fun _ _ _ h => h) (Or.inl ⟨by rfl, ?_⟩) rfl ?_
  · intro Y hY
    subst hY
    go_simp
  simp only [Act.put, List.getElem_toArray, List.getElem_cons_succ, List.getElem_cons_zero, List.setIfInBounds_toArray, List.set_cons_zero, List.set_cons_succ]
  refine wpAnyH_ready (rs := [2]) (by kernel_rfl) (by simp) ?_
  refine AllReadyH.cons rfl (fun K hK => ?_) AllReadyH.nil
  go_simp
  refine (at_14 b _).mono ?_
  rintro e w1 ⟨rfl, rfl⟩
  try go_wp2_with fail
  refine hK.out _ _ rfl (fun _ => ?_)
  clear hK K
  simp only [List.setIfInBounds_toArray, List.set_cons_zero, List.set_cons_succ]
  refine wpAnyH_ready (rs := [4]) (by kernel_rfl) (by simp) ?_
  refine AllReadyH.cons rfl (fun K hK => ?_) AllReadyH.nil
  go_simp
  refine hK.out _ _ rfl (fun _ => ?_)
  clear hK K
  simp only [List.setIfInBounds_toArray, List.set_cons_zero, List.set_cons_succ]
  refine wpAnyH_ready (rs := [5]) (by kernel_rfl) (by simp) ?_
  refine AllReadyH.cons rfl (fun K hK => ?_) AllReadyH.nil
  go_simp

  refine hK.out _ _ (by first | rfl | simp only [s0, s1, s2, s3]) (fun _ => ?_)
  clear hK K
  simp only [List.setIfInBounds_toArray, List.set_cons_zero, List.set_cons_succ]
  refine wpAnyH_done (by kernel_rfl) ?_ _
  go_wp2_with fail
  go_end0
  exact ⟨⟨_, rfl⟩, X, .inl rfl, HB.out.drew⟩
theorem lv_15 (b box : Nat) (X : World) (hx : X.cell? ⟨box, 0, none⟩ = some (.func (.func 162) #[] #[])) (hW : Wire X b) :
    Calls Tryz.prog 218 #[.pointer (some ⟨b, 0, none⟩), .pointer (some ⟨box, 0, none⟩)] X fun e w' => (∃ v, e = .returned v) ∧ LvP X w' b := by
  have c0 : X.cell? ⟨b, 29, none⟩ = some (.string ⟨#[]⟩) := (hW.cell (i := 29) (by decide)).trans rfl
  have s0 : X.setCell ⟨b, 29, none⟩ (.string ⟨#[]⟩) = X := hW.same (i := 29) (by decide) rfl
  have z0 := hW.frozen 29
  go_enter Tryz.func218, Tryz.ntmps218
  go_wp2_with fail
  refine (at_15 b X).mono ?_
  rintro e w1 ⟨rfl, rfl⟩
  go_wp2_with fail
  go_end0
  exact ⟨⟨_, rfl⟩, X, .inl rfl, Below.refl _ _⟩
theorem lv_16 (b box : Nat) (X : World) (hx : X.cell? ⟨box, 0, none⟩ = some (.func (.func 164) #[] #[])) (hW : Wire X b) :
    Calls Tryz.prog 218 #[.pointer (some ⟨b, 0, none⟩), .pointer (some ⟨box, 0, none⟩)] X fun e w' => (∃ v, e = .returned v) ∧ LvP X w' b := by
  have c0 : X.cell? ⟨b, 30, none⟩ = some (.string ⟨#[]⟩) := (hW.cell (i := 30) (by decide)).trans rfl
  have s0 : X.setCell ⟨b, 30, none⟩ (.string ⟨#[]⟩) = X := hW.same (i := 30) (by decide) rfl
  have z0 := hW.frozen 30
  go_enter Tryz.func218, Tryz.ntmps218
  go_wp2_with fail
  refine (at_16 b X).mono ?_
  rintro e w1 ⟨rfl, rfl⟩
  go_wp2_with fail
  go_end0
  exact ⟨⟨_, rfl⟩, X, .inl rfl, Below.refl _ _⟩
set_option maxRecDepth 100000 in
theorem lv_17 (b box : Nat) (X : World) (hx : X.cell? ⟨box, 0, none⟩ = some (.func (.func 165) #[] #[])) (hW : Wire X b) :
    Calls Tryz.prog 213 #[.pointer (some ⟨b, 0, none⟩), .pointer (some ⟨box, 0, none⟩)] X fun e w' => (∃ v, e = .returned v) ∧ LvP X w' b := by
  have mixed : Tryz.prog.follows .mixedOrders = true := by kernel_rfl
  obtain ⟨X1, hX1⟩ : ∃ X1, (X.alloc (.cells #[.int .u64 0, .int .u64 0, .int .u64 0, .int .u64 0] 89)) = X1 := ⟨_, rfl⟩
  have hb1 : Below X.heap.size X X1 := by rw [← hX1]; exact (Below.refl _ _).alloc (Nat.le_refl _) _
  have hW1 : Wire X1.drew b := (hW.from_ hb1).drew
  have hx1 : X1.drew.cell? ⟨box, 0, none⟩ = some (.func (.func 165) #[] #[]) := (hb1.cell (p := ⟨box, 0, none⟩) (cell_lt hx)).trans hx
  have n0 : X1.drew.cell? ⟨X.heap.size, 0, none⟩ = some (.int .u64 0) := by show X1.cell? _ = _; rw [← hX1]; simp [go_sem]
  have n1 : X1.drew.cell? ⟨X.heap.size, 1, none⟩ = some (.int .u64 0) := by show X1.cell? _ = _; rw [← hX1]; simp [go_sem]
  have n2 : X1.drew.cell? ⟨X.heap.size, 2, none⟩ = some (.int .u64 0) := by show X1.cell? _ = _; rw [← hX1]; simp [go_sem]
  have n3 : X1.drew.cell? ⟨X.heap.size, 3, none⟩ = some (.int .u64 0) := by show X1.cell? _ = _; rw [← hX1]; simp [go_sem]
  have HX := Lib.hid hX1
  have HB := Lib.hid hb1
  clear hX1 hb1
  have c0 : X1.drew.cell? ⟨b, 31, none⟩ = some (.int .u64 0) := (hW1.cell (i := 31) (by decide)).trans rfl
  have s0 : X1.drew.setCell ⟨b, 31, none⟩ (.int .u64 0) = X1.drew := hW1.same (i := 31) (by decide) rfl
  have z0 := hW1.frozen 31
  have c1 : X1.drew.cell? ⟨b, 32, none⟩ = some (.int .u64 0) := (hW1.cell (i := 32) (by decide)).trans rfl
  have s1 : X1.drew.setCell ⟨b, 32, none⟩ (.int .u64 0) = X1.drew := hW1.same (i := 32) (by decide) rfl
  have z1 := hW1.frozen 32
  have c2 : X1.drew.cell? ⟨b, 33, none⟩ = some (.int .u64 0) := (hW1.cell (i := 33) (by decide)).trans rfl
  have s2 : X1.drew.setCell ⟨b, 33, none⟩ (.int .u64 0) = X1.drew := hW1.same (i := 33) (by decide) rfl
  have z2 := hW1.frozen 33
  have c3 : X1.drew.cell? ⟨b, 34, none⟩ = some (.int .u64 0) := (hW1.cell (i := 34) (by decide)).trans rfl
  have s3 : X1.drew.setCell ⟨b, 34, none⟩ (.int .u64 0) = X1.drew := hW1.same (i := 34) (by decide) rfl
  have z3 := hW1.frozen 34
  go_enter Tryz.func213, Tryz.ntmps213
  go_wp2_with fail
  rw [HX.out]
  refine wp_region_held (S := fun Y => Y = X1.drew) mixed ?_
  rw [show Array.replicate (Array.size _) false = #[false, false, false, false, false, false] from rfl, show Array.size (α := Oper) _ = 6 from rfl]
  refine wpAnyH_take (i := 0) (v := .func (.func 165) #[] #[]) rfl (by kernel_rfl) (by kernel_rfl) (by kernel_rfl) (fun _ _ _ h => h) (Or.inl ⟨by rfl, ?_⟩) rfl ?_
  · intro Y hY
    subst hY
    go_simp
  simp only [Act.put, List.getElem_toArray, List.getElem_cons_zero, List.setIfInBounds_toArray, List.set_cons_zero, List.set_cons_succ]
  refine wpAnyH_take (i := 1) (v := .pointer (some ⟨b, 0, none⟩)) rfl (by kernel_rfl) (by kernel_rfl) (by kernel_rfl) (fun _ _ _ h => h) (Or.inl ⟨by rfl, ?_⟩) rfl ?_
  · intro Y hY
    skip
    go_simp
  simp only [Act.put, List.getElem_toArray, List.getElem_cons_succ, List.getElem_cons_zero, List.setIfInBounds_toArray, List.set_cons_zero, List.set_cons_succ]
  refine wpAnyH_take (i := 3) (v := .agg #[.int .u64 0, .int .u64 0, .int .u64 0, .int .u64 0]) rfl (by kernel_rfl) (by kernel_rfl) (by kernel_rfl) (fun _ _ _ h => h) (Or.inl ⟨by rfl, ?_⟩) rfl ?_
  · intro Y hY
    subst hY
    go_simp
  simp only [Act.put, List.getElem_toArray, List.getElem_cons_succ, List.getElem_cons_zero, List.setIfInBounds_toArray, List.set_cons_zero, List.set_cons_succ]
  refine wpAnyH_ready (rs := [2]) (by kernel_rfl) (by simp) ?_
  refine AllReadyH.cons rfl (fun K hK => ?_) AllReadyH.nil
  go_simp
  refine (at_17 b _).mono ?_
  rintro e w1 ⟨rfl, rfl⟩
  try go_wp2_with fail
  refine hK.out _ _ rfl (fun _ => ?_)
  clear hK K
  simp only [List.setIfInBounds_toArray, List.set_cons_zero, List.set_cons_succ]
  refine wpAnyH_ready (rs := [4]) (by kernel_rfl) (by simp) ?_
  refine AllReadyH.cons rfl (fun K hK => ?_) AllReadyH.nil
  go_simp
  refine hK.out _ _ rfl (fun _ => ?_)
  clear hK K
  simp only [List.setIfInBounds_toArray, List.set_cons_zero, List.set_cons_succ]
  refine wpAnyH_ready (rs := [5]) (by kernel_rfl) (by simp) ?_
  refine AllReadyH.cons rfl (fun K hK => ?_) AllReadyH.nil
  go_simp

  refine hK.out _ _ (by first | rfl | simp only [s0, s1, s2, s3]) (fun _ => ?_)
  clear hK K
  simp only [List.setIfInBounds_toArray, List.set_cons_zero, List.set_cons_succ]
  refine wpAnyH_done (by kernel_rfl) ?_ _
  go_wp2_with fail
  go_end0
  exact ⟨⟨_, rfl⟩, X, .inl rfl, HB.out.drew⟩
theorem lv_18 (b box : Nat) (X : World) (hx : X.cell? ⟨box, 0, none⟩ = some (.func (.func 167) #[] #[])) (hW : Wire X b) :
    Calls Tryz.prog 240 #[.pointer (some ⟨b, 0, none⟩), .pointer (some ⟨box, 0, none⟩)] X fun e w' => (∃ v, e = .returned v) ∧ LvP X w' b := by
  have c0 : X.cell? ⟨b, 35, none⟩ = some (.bool false) := (hW.cell (i := 35) (by decide)).trans rfl
  have s0 : X.setCell ⟨b, 35, none⟩ (.bool false) = X := hW.same (i := 35) (by decide) rfl
  have z0 := hW.frozen 35
  go_enter Tryz.func240, Tryz.ntmps240
  go_wp2_with fail
  refine (at_18 b X).mono ?_
  rintro e w1 ⟨rfl, rfl⟩
  go_wp2_with fail
  go_end0
  exact ⟨⟨_, rfl⟩, X, .inl rfl, Below.refl _ _⟩
end Go.Proofs.YtihiacbhdcahkaaGreatDoor
namespace Go.Proofs.YtihiacbhdcahkaaGreatDoor
open Go Go.RowKit Go.Lib Go.Shelf

def IsFn (V : Value) : Prop := V = .nilFunc ∨ ∃ F xa xb, V = .func F xa xb
theorem store_fn {V : Value} (hV : IsFn V) (W : World) (p : Addr) (h1 : (W.cell? p).isSome = true) (h2 : W.frozen? p = false) : (store p V).run Tryz.prog W = .ok () (W.setCell p V) := by
  rw [run_store _ _ _ _ _ (by rcases hV with rfl | ⟨F, xa, xb, rfl⟩ <;> rfl)]
  obtain ⟨v, hv⟩ := Option.isSome_iff_exists.1 h1
  rw [hv]
  simp [h2]
theorem Tryz.partSize : (Tryz.prog.info? 181).map (·.size) = some 3 := by kernel_rfl
theorem part_new {fn : Func} {s : Tmp} (hres : fn.results = #[.cell s 181]) (W : World) (b : Nat) (tmps : Array Value) (x y z : Value) (R : Ending → World → Prop) (hp : tmps.getD s undef = .pointer (some ⟨b, 0, none⟩)) (hb : W.heap[b]? = some (.cells #[x, y, z] 181 (0, 0)))
    (h : R (.returned (.agg #[x, y, z])) W) : bodyPost Tryz.prog fn R .ret { tmps := tmps, defers := [] } W := by
  have := results_cell_row (P := Tryz.prog) hres tmps W b 181 #[x, y, z] (0, 0) _ hp hb Tryz.underlying181 rfl Tryz.partSize
  exact bodyPost_ret this rfl h
/-- What leaves a field, among the first n blocks. -/
structure PartOk (n : Nat) (W : World) (l : Value) : Prop where
  out : ∃ (F : FuncId) (box : Nat), l = .func (.func F) #[] #[.pointer (some ⟨box, 0, none⟩)] ∧ box < n ∧ (∀ args w, (callFunc F args).run Tryz.prog w = .ok (.enter F args) w) ∧
    ∀ (X : World) (b : Nat), X.cell? ⟨box, 0, none⟩ = W.cell? ⟨box, 0, none⟩ → Wire X b → Calls Tryz.prog F #[.pointer (some ⟨b, 0, none⟩), .pointer (some ⟨box, 0, none⟩)] X fun e w' => (∃ v, e = .returned v) ∧ LvP X w' b
theorem PartOk.from_ {n : Nat} {W W' : World} {l : Value} (h : PartOk n W l) (hb : Below n W W') : PartOk n W' l := by
  obtain ⟨F, box, rfl, hlt, hE, hC⟩ := h.out
  exact ⟨F, box, rfl, hlt, hE, fun X b hx hW => hC X b (hx.trans (hb.cell (p := ⟨box, 0, none⟩) hlt)) hW⟩
theorem PartOk.mono {n m : Nat} {W : World} {l : Value} (h : PartOk n W l) (hm : n ≤ m) : PartOk m W l := by
  obtain ⟨F, box, rfl, hlt, hE, hC⟩ := h.out
  exact ⟨F, box, rfl, Nat.lt_of_lt_of_le hlt hm, hE, hC⟩
set_option maxRecDepth 100000 in
theorem part_0 (f p g : FuncId) (gc : Array Value) (w : World) : Calls Tryz.prog 134 #[.func (.func f) #[] #[], .func (.func p) #[] #[], .func (.func g) #[] gc] w fun e w' => (∃ p' g', IsFn p' ∧ IsFn g' ∧ e = .returned (.agg #[p', g', .func (.func 209) #[] #[.pointer (some ⟨w.heap.size, 0, none⟩)]])) ∧ w'.cell? ⟨w.heap.size, 0, none⟩ = some (.func (.func f) #[] #[]) ∧ w.heap.size < w'.heap.size ∧ Below w.heap.size w w' := by
  have s0 := fun xa W p => store_fn (V := .func (.func 207) #[] xa) (.inr ⟨_, _, _, rfl⟩) W p
  have s1 := fun xa W p => store_fn (V := .func (.func 208) #[] xa) (.inr ⟨_, _, _, rfl⟩) W p
  have s2 := fun xa W p => store_fn (V := .func (.func 209) #[] xa) (.inr ⟨_, _, _, rfl⟩) W p
  go_enter Tryz.func134, Tryz.ntmps134
  go_wp2_with fail
  refine part_new rfl _ _ _ _ _ _ _ (by simp) (heap_alloc_new _ _) ⟨⟨_, _, .inr ⟨_, _, _, rfl⟩, .inr ⟨_, _, _, rfl⟩, rfl⟩, by simp [go_sem], by simp [go_sem] <;> omega, by (repeat (first | exact Below.refl _ _ | refine Below.drew ?_ | refine Below.alloc ?_ (by first | omega | (simp; omega) | simp) _ | refine Below.setCell ?_ (by first | omega | (simp; omega) | simp) _))⟩
set_option maxRecDepth 100000 in
theorem part_1 (f p g : FuncId) (gc : Array Value) (w : World) : Calls Tryz.prog 138 #[.func (.func f) #[] #[], .func (.func p) #[] #[], .func (.func g) #[] gc] w fun e w' => (∃ p' g', IsFn p' ∧ IsFn g' ∧ e = .returned (.agg #[p', g', .func (.func 213) #[] #[.pointer (some ⟨w.heap.size, 0, none⟩)]])) ∧ w'.cell? ⟨w.heap.size, 0, none⟩ = some (.func (.func f) #[] #[]) ∧ w.heap.size < w'.heap.size ∧ Below w.heap.size w w' := by
  have s0 := fun xa W p => store_fn (V := .func (.func 211) #[] xa) (.inr ⟨_, _, _, rfl⟩) W p
  have s1 := fun xa W p => store_fn (V := .func (.func 212) #[] xa) (.inr ⟨_, _, _, rfl⟩) W p
  have s2 := fun xa W p => store_fn (V := .func (.func 213) #[] xa) (.inr ⟨_, _, _, rfl⟩) W p
  go_enter Tryz.func138, Tryz.ntmps138
  go_wp2_with fail
  refine part_new rfl _ _ _ _ _ _ _ (by simp) (heap_alloc_new _ _) ⟨⟨_, _, .inr ⟨_, _, _, rfl⟩, .inr ⟨_, _, _, rfl⟩, rfl⟩, by simp [go_sem], by simp [go_sem] <;> omega, by (repeat (first | exact Below.refl _ _ | refine Below.drew ?_ | refine Below.alloc ?_ (by first | omega | (simp; omega) | simp) _ | refine Below.setCell ?_ (by first | omega | (simp; omega) | simp) _))⟩
set_option maxRecDepth 100000 in
theorem part_2 (f p g : FuncId) (gc : Array Value) (w : World) : Calls Tryz.prog 144 #[.func (.func f) #[] #[], .func (.func p) #[] #[], .func (.func g) #[] gc] w fun e w' => (∃ p' g', IsFn p' ∧ IsFn g' ∧ e = .returned (.agg #[p', g', .func (.func 218) #[] #[.pointer (some ⟨w.heap.size, 0, none⟩)]])) ∧ w'.cell? ⟨w.heap.size, 0, none⟩ = some (.func (.func f) #[] #[]) ∧ w.heap.size < w'.heap.size ∧ Below w.heap.size w w' := by
  have s0 := fun xa W p => store_fn (V := .func (.func 216) #[] xa) (.inr ⟨_, _, _, rfl⟩) W p
  have s1 := fun xa W p => store_fn (V := .func (.func 217) #[] xa) (.inr ⟨_, _, _, rfl⟩) W p
  have s2 := fun xa W p => store_fn (V := .func (.func 218) #[] xa) (.inr ⟨_, _, _, rfl⟩) W p
  go_enter Tryz.func144, Tryz.ntmps144
  go_wp2_with fail
  refine part_new rfl _ _ _ _ _ _ _ (by simp) (heap_alloc_new _ _) ⟨⟨_, _, .inr ⟨_, _, _, rfl⟩, .inr ⟨_, _, _, rfl⟩, rfl⟩, by simp [go_sem], by simp [go_sem] <;> omega, by (repeat (first | exact Below.refl _ _ | refine Below.drew ?_ | refine Below.alloc ?_ (by first | omega | (simp; omega) | simp) _ | refine Below.setCell ?_ (by first | omega | (simp; omega) | simp) _))⟩
set_option maxRecDepth 100000 in
theorem part_3 (f p g : FuncId) (gc : Array Value) (w : World) : Calls Tryz.prog 150 #[.func (.func f) #[] #[], .func (.func p) #[] #[], .func (.func g) #[] gc] w fun e w' => (∃ p' g', IsFn p' ∧ IsFn g' ∧ e = .returned (.agg #[p', g', .func (.func 224) #[] #[.pointer (some ⟨w.heap.size, 0, none⟩)]])) ∧ w'.cell? ⟨w.heap.size, 0, none⟩ = some (.func (.func f) #[] #[]) ∧ w.heap.size < w'.heap.size ∧ Below w.heap.size w w' := by
  have s0 := fun xa W p => store_fn (V := .func (.func 222) #[] xa) (.inr ⟨_, _, _, rfl⟩) W p
  have s1 := fun xa W p => store_fn (V := .func (.func 223) #[] xa) (.inr ⟨_, _, _, rfl⟩) W p
  have s2 := fun xa W p => store_fn (V := .func (.func 224) #[] xa) (.inr ⟨_, _, _, rfl⟩) W p
  go_enter Tryz.func150, Tryz.ntmps150
  go_wp2_with fail
  refine part_new rfl _ _ _ _ _ _ _ (by simp) (heap_alloc_new _ _) ⟨⟨_, _, .inr ⟨_, _, _, rfl⟩, .inr ⟨_, _, _, rfl⟩, rfl⟩, by simp [go_sem], by simp [go_sem] <;> omega, by (repeat (first | exact Below.refl _ _ | refine Below.drew ?_ | refine Below.alloc ?_ (by first | omega | (simp; omega) | simp) _ | refine Below.setCell ?_ (by first | omega | (simp; omega) | simp) _))⟩
set_option maxRecDepth 100000 in
theorem part_4 (f p g : FuncId) (gc : Array Value) (w : World) : Calls Tryz.prog 154 #[.func (.func f) #[] #[], .func (.func p) #[] #[], .func (.func g) #[] gc] w fun e w' => (∃ p' g', IsFn p' ∧ IsFn g' ∧ e = .returned (.agg #[p', g', .func (.func 231) #[] #[.pointer (some ⟨w.heap.size, 0, none⟩)]])) ∧ w'.cell? ⟨w.heap.size, 0, none⟩ = some (.func (.func f) #[] #[]) ∧ w.heap.size < w'.heap.size ∧ Below w.heap.size w w' := by
  have s0 := fun xa W p => store_fn (V := .func (.func 229) #[] xa) (.inr ⟨_, _, _, rfl⟩) W p
  have s1 := fun xa W p => store_fn (V := .func (.func 230) #[] xa) (.inr ⟨_, _, _, rfl⟩) W p
  have s2 := fun xa W p => store_fn (V := .func (.func 231) #[] xa) (.inr ⟨_, _, _, rfl⟩) W p
  go_enter Tryz.func154, Tryz.ntmps154
  go_wp2_with fail
  refine part_new rfl _ _ _ _ _ _ _ (by simp) (heap_alloc_new _ _) ⟨⟨_, _, .inr ⟨_, _, _, rfl⟩, .inr ⟨_, _, _, rfl⟩, rfl⟩, by simp [go_sem], by simp [go_sem] <;> omega, by (repeat (first | exact Below.refl _ _ | refine Below.drew ?_ | refine Below.alloc ?_ (by first | omega | (simp; omega) | simp) _ | refine Below.setCell ?_ (by first | omega | (simp; omega) | simp) _))⟩
set_option maxRecDepth 100000 in
theorem part_5 (f p g : FuncId) (gc : Array Value) (w : World) : Calls Tryz.prog 166 #[.func (.func f) #[] #[], .func (.func p) #[] #[], .func (.func g) #[] gc] w fun e w' => (∃ p' g', IsFn p' ∧ IsFn g' ∧ e = .returned (.agg #[p', g', .func (.func 240) #[] #[.pointer (some ⟨w.heap.size, 0, none⟩)]])) ∧ w'.cell? ⟨w.heap.size, 0, none⟩ = some (.func (.func f) #[] #[]) ∧ w.heap.size < w'.heap.size ∧ Below w.heap.size w w' := by
  have s0 := fun xa W p => store_fn (V := .func (.func 238) #[] xa) (.inr ⟨_, _, _, rfl⟩) W p
  have s1 := fun xa W p => store_fn (V := .func (.func 239) #[] xa) (.inr ⟨_, _, _, rfl⟩) W p
  have s2 := fun xa W p => store_fn (V := .func (.func 240) #[] xa) (.inr ⟨_, _, _, rfl⟩) W p
  go_enter Tryz.func166, Tryz.ntmps166
  go_wp2_with fail
  refine part_new rfl _ _ _ _ _ _ _ (by simp) (heap_alloc_new _ _) ⟨⟨_, _, .inr ⟨_, _, _, rfl⟩, .inr ⟨_, _, _, rfl⟩, rfl⟩, by simp [go_sem], by simp [go_sem] <;> omega, by (repeat (first | exact Below.refl _ _ | refine Below.drew ?_ | refine Below.alloc ?_ (by first | omega | (simp; omega) | simp) _ | refine Below.setCell ?_ (by first | omega | (simp; omega) | simp) _))⟩
theorem pk_1 (p g : FuncId) (gc : Array Value) (w : World) : Calls Tryz.prog 134 #[.func (.func 135) #[] #[], .func (.func p) #[] #[], .func (.func g) #[] gc] w fun e w' => (∃ p' g' l, IsFn p' ∧ IsFn g' ∧ e = .returned (.agg #[p', g', l]) ∧ PartOk w'.heap.size w' l) ∧ Below w.heap.size w w' := by
  refine (part_0 _ p g gc w).mono ?_
  rintro e w' ⟨⟨p', g', hp', hg', rfl⟩, hc, hlt, hb⟩
  exact ⟨⟨p', g', _, hp', hg', rfl, ⟨_, w.heap.size, rfl, hlt, enters_of Tryz.func209 (by kernel_rfl) rfl, fun X b hx hW => lv_1 b w.heap.size X (hx.trans hc) hW⟩⟩, hb⟩
theorem pk_2 (p g : FuncId) (gc : Array Value) (w : World) : Calls Tryz.prog 134 #[.func (.func 137) #[] #[], .func (.func p) #[] #[], .func (.func g) #[] gc] w fun e w' => (∃ p' g' l, IsFn p' ∧ IsFn g' ∧ e = .returned (.agg #[p', g', l]) ∧ PartOk w'.heap.size w' l) ∧ Below w.heap.size w w' := by
  refine (part_0 _ p g gc w).mono ?_
  rintro e w' ⟨⟨p', g', hp', hg', rfl⟩, hc, hlt, hb⟩
  exact ⟨⟨p', g', _, hp', hg', rfl, ⟨_, w.heap.size, rfl, hlt, enters_of Tryz.func209 (by kernel_rfl) rfl, fun X b hx hW => lv_2 b w.heap.size X (hx.trans hc) hW⟩⟩, hb⟩
theorem pk_3 (p g : FuncId) (gc : Array Value) (w : World) : Calls Tryz.prog 138 #[.func (.func 139) #[] #[], .func (.func p) #[] #[], .func (.func g) #[] gc] w fun e w' => (∃ p' g' l, IsFn p' ∧ IsFn g' ∧ e = .returned (.agg #[p', g', l]) ∧ PartOk w'.heap.size w' l) ∧ Below w.heap.size w w' := by
  refine (part_1 _ p g gc w).mono ?_
  rintro e w' ⟨⟨p', g', hp', hg', rfl⟩, hc, hlt, hb⟩
  exact ⟨⟨p', g', _, hp', hg', rfl, ⟨_, w.heap.size, rfl, hlt, enters_of Tryz.func213 (by kernel_rfl) rfl, fun X b hx hW => lv_3 b w.heap.size X (hx.trans hc) hW⟩⟩, hb⟩
theorem pk_4 (p g : FuncId) (gc : Array Value) (w : World) : Calls Tryz.prog 138 #[.func (.func 142) #[] #[], .func (.func p) #[] #[], .func (.func g) #[] gc] w fun e w' => (∃ p' g' l, IsFn p' ∧ IsFn g' ∧ e = .returned (.agg #[p', g', l]) ∧ PartOk w'.heap.size w' l) ∧ Below w.heap.size w w' := by
  refine (part_1 _ p g gc w).mono ?_
  rintro e w' ⟨⟨p', g', hp', hg', rfl⟩, hc, hlt, hb⟩
  exact ⟨⟨p', g', _, hp', hg', rfl, ⟨_, w.heap.size, rfl, hlt, enters_of Tryz.func213 (by kernel_rfl) rfl, fun X b hx hW => lv_4 b w.heap.size X (hx.trans hc) hW⟩⟩, hb⟩
theorem pk_5 (p g : FuncId) (gc : Array Value) (w : World) : Calls Tryz.prog 134 #[.func (.func 143) #[] #[], .func (.func p) #[] #[], .func (.func g) #[] gc] w fun e w' => (∃ p' g' l, IsFn p' ∧ IsFn g' ∧ e = .returned (.agg #[p', g', l]) ∧ PartOk w'.heap.size w' l) ∧ Below w.heap.size w w' := by
  refine (part_0 _ p g gc w).mono ?_
  rintro e w' ⟨⟨p', g', hp', hg', rfl⟩, hc, hlt, hb⟩
  exact ⟨⟨p', g', _, hp', hg', rfl, ⟨_, w.heap.size, rfl, hlt, enters_of Tryz.func209 (by kernel_rfl) rfl, fun X b hx hW => lv_5 b w.heap.size X (hx.trans hc) hW⟩⟩, hb⟩
theorem pk_6 (p g : FuncId) (gc : Array Value) (w : World) : Calls Tryz.prog 144 #[.func (.func 145) #[] #[], .func (.func p) #[] #[], .func (.func g) #[] gc] w fun e w' => (∃ p' g' l, IsFn p' ∧ IsFn g' ∧ e = .returned (.agg #[p', g', l]) ∧ PartOk w'.heap.size w' l) ∧ Below w.heap.size w w' := by
  refine (part_2 _ p g gc w).mono ?_
  rintro e w' ⟨⟨p', g', hp', hg', rfl⟩, hc, hlt, hb⟩
  exact ⟨⟨p', g', _, hp', hg', rfl, ⟨_, w.heap.size, rfl, hlt, enters_of Tryz.func218 (by kernel_rfl) rfl, fun X b hx hW => lv_6 b w.heap.size X (hx.trans hc) hW⟩⟩, hb⟩
theorem pk_7 (p g : FuncId) (gc : Array Value) (w : World) : Calls Tryz.prog 138 #[.func (.func 147) #[] #[], .func (.func p) #[] #[], .func (.func g) #[] gc] w fun e w' => (∃ p' g' l, IsFn p' ∧ IsFn g' ∧ e = .returned (.agg #[p', g', l]) ∧ PartOk w'.heap.size w' l) ∧ Below w.heap.size w w' := by
  refine (part_1 _ p g gc w).mono ?_
  rintro e w' ⟨⟨p', g', hp', hg', rfl⟩, hc, hlt, hb⟩
  exact ⟨⟨p', g', _, hp', hg', rfl, ⟨_, w.heap.size, rfl, hlt, enters_of Tryz.func213 (by kernel_rfl) rfl, fun X b hx hW => lv_7 b w.heap.size X (hx.trans hc) hW⟩⟩, hb⟩
theorem pk_8 (p g : FuncId) (gc : Array Value) (w : World) : Calls Tryz.prog 144 #[.func (.func 148) #[] #[], .func (.func p) #[] #[], .func (.func g) #[] gc] w fun e w' => (∃ p' g' l, IsFn p' ∧ IsFn g' ∧ e = .returned (.agg #[p', g', l]) ∧ PartOk w'.heap.size w' l) ∧ Below w.heap.size w w' := by
  refine (part_2 _ p g gc w).mono ?_
  rintro e w' ⟨⟨p', g', hp', hg', rfl⟩, hc, hlt, hb⟩
  exact ⟨⟨p', g', _, hp', hg', rfl, ⟨_, w.heap.size, rfl, hlt, enters_of Tryz.func218 (by kernel_rfl) rfl, fun X b hx hW => lv_8 b w.heap.size X (hx.trans hc) hW⟩⟩, hb⟩
theorem pk_9 (p g : FuncId) (gc : Array Value) (w : World) : Calls Tryz.prog 150 #[.func (.func 151) #[] #[], .func (.func p) #[] #[], .func (.func g) #[] gc] w fun e w' => (∃ p' g' l, IsFn p' ∧ IsFn g' ∧ e = .returned (.agg #[p', g', l]) ∧ PartOk w'.heap.size w' l) ∧ Below w.heap.size w w' := by
  refine (part_3 _ p g gc w).mono ?_
  rintro e w' ⟨⟨p', g', hp', hg', rfl⟩, hc, hlt, hb⟩
  exact ⟨⟨p', g', _, hp', hg', rfl, ⟨_, w.heap.size, rfl, hlt, enters_of Tryz.func224 (by kernel_rfl) rfl, fun X b hx hW => lv_9 b w.heap.size X (hx.trans hc) hW⟩⟩, hb⟩
theorem pk_10 (p g : FuncId) (gc : Array Value) (w : World) : Calls Tryz.prog 154 #[.func (.func 155) #[] #[], .func (.func p) #[] #[], .func (.func g) #[] gc] w fun e w' => (∃ p' g' l, IsFn p' ∧ IsFn g' ∧ e = .returned (.agg #[p', g', l]) ∧ PartOk w'.heap.size w' l) ∧ Below w.heap.size w w' := by
  refine (part_4 _ p g gc w).mono ?_
  rintro e w' ⟨⟨p', g', hp', hg', rfl⟩, hc, hlt, hb⟩
  exact ⟨⟨p', g', _, hp', hg', rfl, ⟨_, w.heap.size, rfl, hlt, enters_of Tryz.func231 (by kernel_rfl) rfl, fun X b hx hW => lv_10 b w.heap.size X (hx.trans hc) hW⟩⟩, hb⟩
theorem pk_11 (p g : FuncId) (gc : Array Value) (w : World) : Calls Tryz.prog 134 #[.func (.func 158) #[] #[], .func (.func p) #[] #[], .func (.func g) #[] gc] w fun e w' => (∃ p' g' l, IsFn p' ∧ IsFn g' ∧ e = .returned (.agg #[p', g', l]) ∧ PartOk w'.heap.size w' l) ∧ Below w.heap.size w w' := by
  refine (part_0 _ p g gc w).mono ?_
  rintro e w' ⟨⟨p', g', hp', hg', rfl⟩, hc, hlt, hb⟩
  exact ⟨⟨p', g', _, hp', hg', rfl, ⟨_, w.heap.size, rfl, hlt, enters_of Tryz.func209 (by kernel_rfl) rfl, fun X b hx hW => lv_11 b w.heap.size X (hx.trans hc) hW⟩⟩, hb⟩
theorem pk_12 (p g : FuncId) (gc : Array Value) (w : World) : Calls Tryz.prog 134 #[.func (.func 159) #[] #[], .func (.func p) #[] #[], .func (.func g) #[] gc] w fun e w' => (∃ p' g' l, IsFn p' ∧ IsFn g' ∧ e = .returned (.agg #[p', g', l]) ∧ PartOk w'.heap.size w' l) ∧ Below w.heap.size w w' := by
  refine (part_0 _ p g gc w).mono ?_
  rintro e w' ⟨⟨p', g', hp', hg', rfl⟩, hc, hlt, hb⟩
  exact ⟨⟨p', g', _, hp', hg', rfl, ⟨_, w.heap.size, rfl, hlt, enters_of Tryz.func209 (by kernel_rfl) rfl, fun X b hx hW => lv_12 b w.heap.size X (hx.trans hc) hW⟩⟩, hb⟩
theorem pk_13 (p g : FuncId) (gc : Array Value) (w : World) : Calls Tryz.prog 138 #[.func (.func 160) #[] #[], .func (.func p) #[] #[], .func (.func g) #[] gc] w fun e w' => (∃ p' g' l, IsFn p' ∧ IsFn g' ∧ e = .returned (.agg #[p', g', l]) ∧ PartOk w'.heap.size w' l) ∧ Below w.heap.size w w' := by
  refine (part_1 _ p g gc w).mono ?_
  rintro e w' ⟨⟨p', g', hp', hg', rfl⟩, hc, hlt, hb⟩
  exact ⟨⟨p', g', _, hp', hg', rfl, ⟨_, w.heap.size, rfl, hlt, enters_of Tryz.func213 (by kernel_rfl) rfl, fun X b hx hW => lv_13 b w.heap.size X (hx.trans hc) hW⟩⟩, hb⟩
theorem pk_14 (p g : FuncId) (gc : Array Value) (w : World) : Calls Tryz.prog 138 #[.func (.func 161) #[] #[], .func (.func p) #[] #[], .func (.func g) #[] gc] w fun e w' => (∃ p' g' l, IsFn p' ∧ IsFn g' ∧ e = .returned (.agg #[p', g', l]) ∧ PartOk w'.heap.size w' l) ∧ Below w.heap.size w w' := by
  refine (part_1 _ p g gc w).mono ?_
  rintro e w' ⟨⟨p', g', hp', hg', rfl⟩, hc, hlt, hb⟩
  exact ⟨⟨p', g', _, hp', hg', rfl, ⟨_, w.heap.size, rfl, hlt, enters_of Tryz.func213 (by kernel_rfl) rfl, fun X b hx hW => lv_14 b w.heap.size X (hx.trans hc) hW⟩⟩, hb⟩
theorem pk_15 (p g : FuncId) (gc : Array Value) (w : World) : Calls Tryz.prog 144 #[.func (.func 162) #[] #[], .func (.func p) #[] #[], .func (.func g) #[] gc] w fun e w' => (∃ p' g' l, IsFn p' ∧ IsFn g' ∧ e = .returned (.agg #[p', g', l]) ∧ PartOk w'.heap.size w' l) ∧ Below w.heap.size w w' := by
  refine (part_2 _ p g gc w).mono ?_
  rintro e w' ⟨⟨p', g', hp', hg', rfl⟩, hc, hlt, hb⟩
  exact ⟨⟨p', g', _, hp', hg', rfl, ⟨_, w.heap.size, rfl, hlt, enters_of Tryz.func218 (by kernel_rfl) rfl, fun X b hx hW => lv_15 b w.heap.size X (hx.trans hc) hW⟩⟩, hb⟩
theorem pk_16 (p g : FuncId) (gc : Array Value) (w : World) : Calls Tryz.prog 144 #[.func (.func 164) #[] #[], .func (.func p) #[] #[], .func (.func g) #[] gc] w fun e w' => (∃ p' g' l, IsFn p' ∧ IsFn g' ∧ e = .returned (.agg #[p', g', l]) ∧ PartOk w'.heap.size w' l) ∧ Below w.heap.size w w' := by
  refine (part_2 _ p g gc w).mono ?_
  rintro e w' ⟨⟨p', g', hp', hg', rfl⟩, hc, hlt, hb⟩
  exact ⟨⟨p', g', _, hp', hg', rfl, ⟨_, w.heap.size, rfl, hlt, enters_of Tryz.func218 (by kernel_rfl) rfl, fun X b hx hW => lv_16 b w.heap.size X (hx.trans hc) hW⟩⟩, hb⟩
theorem pk_17 (p g : FuncId) (gc : Array Value) (w : World) : Calls Tryz.prog 138 #[.func (.func 165) #[] #[], .func (.func p) #[] #[], .func (.func g) #[] gc] w fun e w' => (∃ p' g' l, IsFn p' ∧ IsFn g' ∧ e = .returned (.agg #[p', g', l]) ∧ PartOk w'.heap.size w' l) ∧ Below w.heap.size w w' := by
  refine (part_1 _ p g gc w).mono ?_
  rintro e w' ⟨⟨p', g', hp', hg', rfl⟩, hc, hlt, hb⟩
  exact ⟨⟨p', g', _, hp', hg', rfl, ⟨_, w.heap.size, rfl, hlt, enters_of Tryz.func213 (by kernel_rfl) rfl, fun X b hx hW => lv_17 b w.heap.size X (hx.trans hc) hW⟩⟩, hb⟩
theorem pk_18 (p g : FuncId) (gc : Array Value) (w : World) : Calls Tryz.prog 166 #[.func (.func 167) #[] #[], .func (.func p) #[] #[], .func (.func g) #[] gc] w fun e w' => (∃ p' g' l, IsFn p' ∧ IsFn g' ∧ e = .returned (.agg #[p', g', l]) ∧ PartOk w'.heap.size w' l) ∧ Below w.heap.size w w' := by
  refine (part_5 _ p g gc w).mono ?_
  rintro e w' ⟨⟨p', g', hp', hg', rfl⟩, hc, hlt, hb⟩
  exact ⟨⟨p', g', _, hp', hg', rfl, ⟨_, w.heap.size, rfl, hlt, enters_of Tryz.func240 (by kernel_rfl) rfl, fun X b hx hW => lv_18 b w.heap.size X (hx.trans hc) hW⟩⟩, hb⟩
end Go.Proofs.YtihiacbhdcahkaaGreatDoor
