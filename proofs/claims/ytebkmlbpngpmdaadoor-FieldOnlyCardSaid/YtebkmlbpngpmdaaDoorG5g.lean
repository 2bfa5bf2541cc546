/- FieldOnly, under what the calls of package field must do. -/
import Derived.Test.YtebkmlbpngpmdaaDoorG3g
import Derived.Test.YtebkmlbpngpmdaaDoorEFg
import Derived.Test.YtebkmlbpngpmdaaDoorG7g
import Derived.Test.YtebkmlbpngpmdaaDoorG8g
import Derived.Test.YtebkmlbpngpmdaaDoorB3g
import Derived.Test.YtebkmlbpngpmdaaDoorD10g
import Derived.Test.YtebkmlbpngpmdaaDoorD12g
namespace Go.Proofs.YtebkmlbpngpmdaaDoor
open Go Go.RowKit

/-- What is told of an item as texts, and as an address. -/
structure Told2 (x : M.It) (ls : List (List UInt8)) (e : Nat) (s : List UInt8) (f : Nat) : Prop where
  texts : e = 0 → M.textsI ls = x
  addr : f = 0 → M.textI s = x
  s_le : s.length ≤ longS
/-- What is told of an item, number by number. -/
structure Told (x : M.It) (n e N f : Nat) (s : List UInt8) (g : Nat) (b : Bool) (h : Nat) : Prop where
  number : e = 0 → M.textI (M.ben n) = x
  n_lt : n < 18446744073709551616
  word : f = 0 → M.textI (M.tr (M.f32 N)) = x
  n_in : M.In N
  text : g = 0 → M.textI s = x
  s_le : s.length ≤ longS
  bool_ : h = 0 → M.boolI b = x

set_option maxRecDepth 100000 in
set_option maxHeartbeats 8000000 in
theorem fonly_law (HF : Hid Fields) (l : Bool) (d : List UInt8) (xs : List M.It) (v : Value) (w : World) (hL : Lay w w.heap.size xs v) (hs : M.smI (.mk l d xs)) :
    Calls Tryd.prog 5 #[iv l d v] w fun e w' => e = .returned (.bool true) ∧ Below w.heap.size w w' := by
  obtain ⟨a, cap, hv, _, _⟩ := hL.slice
  subst hv
  have hb0 : Below w.heap.size w (w.alloc (.cells #[.bool l, .string ⟨d.toArray⟩, .slice a xs.length cap] 30)) := by (repeat (first | exact Below.refl _ _ | refine Below.drew ?_ | refine Below.alloc ?_ (by first | omega | (simp; omega) | simp) _ | refine Below.setCell ?_ (by first | omega | (simp; omega) | simp) _))
  have hB := Box.new w l d (.slice a xs.length cap) 30
  obtain ⟨w0, hw0⟩ : ∃ w0, w.alloc (.cells #[.bool l, .string ⟨d.toArray⟩, .slice a xs.length cap] 30) = w0 := ⟨_, rfl⟩
  rw [hw0] at hb0 hB
  have hz0 : w0.heap.size = w.heap.size + 1 := by rw [← hw0]; simp
  have HW := Lib.hid hw0
  have HL := Lib.hid hL
  have CL : Hid (∀ W o u, Below w0.heap.size w0 W → w0.cell? ⟨w.heap.size, o, none⟩ = some u → W.cell? ⟨w.heap.size, o, none⟩ = some u) := fun W o u h hc => (h.cell (p := ⟨w.heap.size, o, none⟩) (by simp; omega)).trans hc
  have LL : Hid (∀ W, Below w0.heap.size w0 W → Lay W W.heap.size xs (.slice a xs.length cap)) := fun W h => (HL.out.from_ (hb0.trans (h.mono (by omega)))).mono (by have := h.size; omega)
  clear hw0 hL
  have b0 := hB.c0
  have b1 := hB.c1
  have b2 := hB.c2
  go_enter Tryd.func5, Tryd.ntmps5
  go_wp2_with fail
  rw [HW.out]
  refine (fworks HF _).mono ?_
  rintro e w1 ⟨rfl, hb1⟩
  have c0 := CL.out _ _ _ hb1 b0
  have c1 := CL.out _ _ _ hb1 b1
  have c2 := CL.out _ _ _ hb1 b2
  go_wp2_with fail
  refine (few_any l d xs _ w1 (LL.out _ hb1)).mono ?_
  rintro e w2 ⟨⟨q, rfl, hfew⟩, hb2⟩
  have B2 := hb1.trans (hb2.mono hb1.size)
  replace c0 := CL.out _ _ _ B2 b0
  replace c1 := CL.out _ _ _ B2 b1
  replace c2 := CL.out _ _ _ B2 b2
  cases q with
  | false =>
    clear hfew
    go_wp2_with fail
    go_ret
    exact ⟨rfl, hb0.trans (B2.mono (by omega))⟩
  | true =>
    have hcnt := hfew rfl
    clear hfew
    have hsz := M.few_size hcnt hs
    rw [M.cntI] at hcnt
    go_wp2_with fail
    refine (check_any l d xs _ w2 (LL.out _ B2) (by omega) (by omega)).mono ?_
    rintro e w3 ⟨rfl, hb3⟩
    have B3 := B2.trans (hb3.mono B2.size)
    replace c0 := CL.out _ _ _ B3 b0
    replace c1 := CL.out _ _ _ B3 b1
    replace c2 := CL.out _ _ _ B3 b2
    by_cases hk : M.checkI (.mk l d xs) = 0
    · have hform := (M.checkI_ok.1 hk).1
      rw [hk]
      have RD : Hid (∀ W, Below w0.heap.size w0 W → Rd W l d xs a cap) := fun W h => ⟨LL.out W h, hs, by omega, hform⟩
      have t1 : Told (.mk l d xs) (M.getNumber (.mk l d xs)).1 (M.getNumber (.mk l d xs)).2 (M.getWord (.mk l d xs)).1 (M.getWord (.mk l d xs)).2 (M.getText 0 70000 (.mk l d xs)).1 (M.getText 0 70000 (.mk l d xs)).2 (M.getBool (.mk l d xs)).1 (M.getBool (.mk l d xs)).2 := by
        refine ⟨M.number_only hform, ?_, M.word_only hform, ?_, M.text_only hform, ?_, M.bool_only hform⟩
        · cases l
          · exact M.ub_lt d
          · show 0 < _; decide
        · cases l
          · exact M.pw_in d
          · show M.In 0; unfold M.In; decide
        · cases l
          · show (M.gText 0 70000 d).1.length ≤ _
            unfold M.gText
            split
            · exact Nat.zero_le _
            · exact hs.1
          · exact Nat.zero_le _
      have hwhen := M.text_when hk
      have t2 : Told2 (.mk l d xs) (M.getTexts 600 0 70000 (.mk l d xs)).1 (M.getTexts 600 0 70000 (.mk l d xs)).2 (M.getAddr (.mk l d xs)).1 (M.getAddr (.mk l d xs)).2 := by
        refine ⟨M.texts_only hform, M.addr_only hform, ?_⟩
        cases l
        · show (M.gAddr d).1.length ≤ _
          unfold M.gAddr
          split
          · exact hs.1
          · exact Nat.zero_le _
        · exact Nat.zero_le _
      have k1 := Lib.hid (fun W h => HF.out.gNumber l d xs a cap W (RD.out W h))
      have k2 := Lib.hid (fun W h => HF.out.gWord l d xs a cap W (RD.out W h))
      have k3 := Lib.hid (fun W h => HF.out.gText l d xs a cap 0 70000 W (RD.out W h))
      have k4 := Lib.hid (fun W h => HF.out.gBool l d xs a cap W (RD.out W h))
      have k5 := Lib.hid (fun W h => HF.out.gTexts l d xs a cap 600 0 70000 W (RD.out W h))
      have k6 := Lib.hid (fun W h => HF.out.gAddr l d xs a cap W (RD.out W h))
      generalize M.getTexts 600 0 70000 (.mk l d xs) = r5 at *
      generalize M.getAddr (.mk l d xs) = r6 at *
      generalize M.getNumber (.mk l d xs) = r1 at *
      generalize M.getWord (.mk l d xs) = r2 at *
      generalize M.getText 0 70000 (.mk l d xs) = r3 at *
      generalize M.getBool (.mk l d xs) = r4 at *
      obtain ⟨n, e1⟩ := r1
      obtain ⟨N, e2⟩ := r2
      obtain ⟨s, e3⟩ := r3
      obtain ⟨bb, e4⟩ := r4
      obtain ⟨ls, e5⟩ := r5
      obtain ⟨t, e6⟩ := r6
      simp only at k1 k2 k3 k4 k5 k6 t1 t2 hwhen
      have T1 := Lib.hid t1
      have T2 := Lib.hid t2
      have HWh := Lib.hid hwhen
      clear t1 t2 hwhen
      go_wp2_with fail
      refine (k1.out _ B3).mono ?_
      rintro e w4 ⟨rfl, hb4⟩
      have B4 := B3.trans (hb4.mono B3.size)
      replace c0 := CL.out _ _ _ B4 b0
      replace c1 := CL.out _ _ _ B4 b1
      replace c2 := CL.out _ _ _ B4 b2
      go_wp2_with fail
      refine (k2.out _ B4).mono ?_
      rintro e w5 ⟨rfl, hb5⟩
      have B5 := B4.trans (hb5.mono B4.size)
      replace c0 := CL.out _ _ _ B5 b0
      replace c1 := CL.out _ _ _ B5 b1
      replace c2 := CL.out _ _ _ B5 b2
      have hlt5 : w.heap.size < w5.heap.size := by have := B5.size; omega
      obtain ⟨w6, hw6⟩ : ∃ w6, w5.alloc (.cells #[.int .u64 (M.pt 0 N), .int .u64 (M.pt 1 N), .int .u64 (M.pt 2 N), .int .u64 (M.pt 3 N)] 24) = w6 := ⟨_, rfl⟩
      have hb6 : Below w5.heap.size w5 w6 := by rw [← hw6]; (repeat (first | exact Below.refl _ _ | refine Below.drew ?_ | refine Below.alloc ?_ (by first | omega | (simp; omega) | simp) _ | refine Below.setCell ?_ (by first | omega | (simp; omega) | simp) _))
      have d0 : w6.cell? ⟨w5.heap.size, 0, none⟩ = some (.int .u64 (M.pt 0 N)) := by rw [← hw6]; simp [go_sem]
      have d1 : w6.cell? ⟨w5.heap.size, 1, none⟩ = some (.int .u64 (M.pt 1 N)) := by rw [← hw6]; simp [go_sem]
      have d2 : w6.cell? ⟨w5.heap.size, 2, none⟩ = some (.int .u64 (M.pt 2 N)) := by rw [← hw6]; simp [go_sem]
      have d3 : w6.cell? ⟨w5.heap.size, 3, none⟩ = some (.int .u64 (M.pt 3 N)) := by rw [← hw6]; simp [go_sem]
      have hz6 : w6.heap.size = w5.heap.size + 1 := by rw [← hw6]; simp
      have B6 := B5.trans (hb6.mono B5.size)
      have HW6 := Lib.hid hw6
      clear hw6
      go_wp2_with fail
      rw [HW6.out]
      refine (k3.out _ B6).mono ?_
      rintro e w7 ⟨rfl, hb7⟩
      have B7 := B6.trans (hb7.mono B6.size)
      replace c0 := CL.out _ _ _ B7 b0
      replace c1 := CL.out _ _ _ B7 b1
      replace c2 := CL.out _ _ _ B7 b2
      go_wp2_with fail
      refine (k4.out _ B7).mono ?_
      rintro e w8 ⟨rfl, hb8⟩
      have B8 := B7.trans (hb8.mono B7.size)
      replace c0 := CL.out _ _ _ B8 b0
      replace c1 := CL.out _ _ _ B8 b1
      replace c2 := CL.out _ _ _ B8 b2
      have hb68 : Below w6.heap.size w6 w8 := hb7.trans (hb8.mono hb7.size)
      have hz8 := hb68.size
      have cl2 : ∀ o u, w6.cell? ⟨w5.heap.size, o, none⟩ = some u → w8.cell? ⟨w5.heap.size, o, none⟩ = some u := fun o u h => (hb68.cell (p := ⟨w5.heap.size, o, none⟩) (by simp; omega)).trans h
      have f0 := cl2 _ _ d0
      have f1 := cl2 _ _ d1
      have f2 := cl2 _ _ d2
      have f3 := cl2 _ _ d3
      clear cl2 d0 d1 d2 d3
      have KK : KO w8 l d xs a cap n e1 N e2 e3 e4 s bb := by
        have up : ∀ {W w' : World}, Below w8.heap.size w8 W → Below W.heap.size W w' → Below w8.heap.size w8 w' := fun h h' => h.trans (h'.mono h.size)
        have sm : ∀ (x : List UInt8), M.textI x = .mk l d xs → ∀ W, Below w8.heap.size w8 W → Calls Tryd.prog 28 #[iv false x (.slice none 0 0), iv l d (.slice a xs.length cap)] W fun e w' => e = .returned (.bool true) ∧ Below w8.heap.size w8 w' := fun x hx W h => by
          have := same_any false l x d [] xs (.slice none 0 0) (.slice a xs.length cap) W (.nil_ (by decide)) (LL.out W (B8.trans (h.mono B8.size))) (by decide) (by omega)
          rw [show M.It.mk false x [] = .mk l d xs from hx, (M.sameI_iff _ _).2 rfl] at this
          exact this.mono fun e w' h2 => ⟨h2.1, up h h2.2⟩
        exact ⟨fun W h => (HF.out.number n W T1.out.n_lt).mono fun e w' h2 => ⟨h2.1, up h h2.2⟩, fun W h => (HF.out.word N W T1.out.n_in).mono fun e w' h2 => ⟨h2.1, up h h2.2⟩, fun W h => (HF.out.text s W T1.out.s_le).mono fun e w' h2 => ⟨h2.1, up h h2.2⟩, fun W h => (HF.out.bool_ bb W).mono fun e w' h2 => ⟨h2.1, up h h2.2⟩,
          fun h => sm _ (T1.out.number h), fun h => sm _ (T1.out.word h), fun h => sm _ (T1.out.text h), fun h => sm _ (T1.out.bool_ h)⟩
      have HK := Lib.hid KK
      clear KK k1 k2 k3 k4
      have hlt8 : w.heap.size < w8.heap.size := by have := B8.size; omega
      have hlt58 : w5.heap.size < w8.heap.size := by omega
      go_wp2_with fail
      refine region_quiet (C := fun W => Below w8.heap.size w8 W) (by kernel_rfl) (by kernel_rfl) (Below.drew (Below.refl _ _)) ?_
      refine fo0 w8 l d xs a cap n e1 N e2 e3 e4 w.heap.size w5.heap.size s bb _ hlt8 hlt58 c0 c1 c2 f0 f1 f2 f3 HK.out _ _ _ _ _ _ _ _ _ _ _ _ _ _ _ _ _ _ _ _ _ _ _ _ _ _ _ _ _ _ _ _ _ _ _ _ _ _ _ _ _ _ _ _ _ _ _ _ _ _ _ _ _ _ _ _ _ _ _ _ _ _ _ _ _ _ _ _ _ _ _ _ _ _ _ _ _ _ _ _ _ _ _ _ _ _ _ _ _ _ _ _ _ _ _ _ _ _ _ _ _ _ _ _ _ _ _ _ _ _ _ _ _ _ _ _ _ _ _ _ _ _ (by kernel_rfl) ?_
      intros
      rename_i w9 hb9
      have B9 := B8.trans (hb9.mono B8.size)
      replace c0 := CL.out _ _ _ B9 b0
      replace c1 := CL.out _ _ _ B9 b1
      replace c2 := CL.out _ _ _ B9 b2
      go_wp2_with fail
      refine (k5.out _ B9).mono ?_
      rintro e w10 ⟨⟨a10, c10, rfl, hT10⟩, hb10⟩
      have B10 := B9.trans (hb10.mono B9.size)
      replace c0 := CL.out _ _ _ B10 b0
      replace c1 := CL.out _ _ _ B10 b1
      replace c2 := CL.out _ _ _ B10 b2
      go_wp2_with fail
      refine (k6.out _ B10).mono ?_
      rintro e w11 ⟨rfl, hb11⟩
      have B11 := B10.trans (hb11.mono B10.size)
      replace c0 := CL.out _ _ _ B11 b0
      replace c1 := CL.out _ _ _ B11 b1
      replace c2 := CL.out _ _ _ B11 b2
      have hT11 := Lib.hid ((hT10.from_ hb11).mono hb11.size)
      have sm : Hid (∀ (y : M.It) (a' : Option Addr) (cap' : Nat) (W : World) (ly : Bool) (dy : List UInt8) (ys : List M.It), y = .mk ly dy ys → y = .mk l d xs → Below w11.heap.size w11 W → Lay W W.heap.size ys (.slice a' ys.length cap') → Calls Tryd.prog 28 #[iv ly dy (.slice a' ys.length cap'), iv l d (.slice a xs.length cap)] W fun e w' => e = .returned (.bool true) ∧ Below W.heap.size W w') := fun y a' cap' W ly dy ys h1 h2 hW hLy => by
        obtain ⟨rfl, rfl, rfl⟩ := M.It.mk.inj (h1.symm.trans h2)
        have := same_any ly ly dy dy ys ys (.slice a' ys.length cap') (.slice a ys.length cap) W hLy (LL.out W (B11.trans (hW.mono B11.size))) (by omega) (by omega)
        rw [(M.sameI_iff _ _).2 rfl] at this
        exact this
      have CS : Hid (∀ W, Below w11.heap.size w11 W → W.cell? ⟨w.heap.size, 0, none⟩ = some (.bool l) ∧ W.cell? ⟨w.heap.size, 1, none⟩ = some (.string ⟨d.toArray⟩) ∧ W.cell? ⟨w.heap.size, 2, none⟩ = some (.slice a xs.length cap)) := fun W h => by
        have hb := B11.trans (h.mono B11.size)
        exact ⟨CL.out _ _ _ hb b0, CL.out _ _ _ hb b1, CL.out _ _ _ hb b2⟩
      have HS1 := Lib.hid (CS.out _ (Below.drew (Below.refl _ w11)))
      have mixed : Tryd.prog.follows .mixedOrders = true := by kernel_rfl
      have heq : Hid (((((e3 : Nat) : Int) == 0) == !l) = true) := by
        have := HWh.out
        cases l
        · have e : e3 = 0 := this.2 rfl
          show _ = _
          simp [e]
        · have e : e3 ≠ 0 := fun h => by cases (this.1 h)
          show _ = _
          simp [e]
      clear k5 k6 hb10 hT10 f0 f1 f2 f3
      have up : ∀ {W w' : World}, Below w11.heap.size w11 W → Below W.heap.size W w' → Below w11.heap.size w11 w' := fun h h' => h.trans (h'.mono h.size)
      have hlt11 : w.heap.size < w11.heap.size := by have := B11.size; omega
      have hb0' := Lib.hid hb0
      by_cases h5 : e5 = 0
      · have hx := T2.out.texts h5
        subst h5
        obtain ⟨rfl, rfl, rfl⟩ := M.It.mk.inj hx
        have h6 : (((e6 : Nat) : Int) != 0) = true := by
          have : e6 ≠ 0 := fun h => by have := T2.out.addr h; rw [← hx] at this; cases this
          simp; omega
        have he3 : (((e3 : Nat) : Int) == 0) = false := by
          have : e3 ≠ 0 := fun h => by cases (HWh.out.1 h)
          simp; omega
        have hlm : (ls.map M.textI).length = ls.length := List.length_map _
        rw [texts_cnt] at hcnt
        have hlg : ∀ u ∈ ls, u.length ≤ longS := by
          have h1 : M.smIs (ls.map M.textI) := hs.2
          have : ∀ l : List (List UInt8), M.smIs (l.map M.textI) → ∀ u ∈ l, u.length ≤ longS := fun l => by
            induction l with
            | nil => intro _ u hu; cases hu
            | cons x xs ih => intro h u hu; rcases List.mem_cons.1 hu with rfl | hu; exact h.1.1; exact ih h.2 u hu
          exact this ls h1
        have KK : KT w11 a a10 cap c10 ls := ⟨fun W h => HF.out.texts ls a10 c10 W ((hT11.out.from_ h).mono h.size) (by omega) hlg, fun a' c' W h hLy => by
          have := sm.out (M.textsI ls) a' c' W true [] (ls.map M.textI) rfl rfl h (by rw [hlm]; exact hLy)
          rw [hlm] at this
          exact this⟩
        have HK := Lib.hid KK
        clear KK
        rw [hlm] at c2 ⊢
        go_wp2_with fail
        refine wp_mono (fr_wp w11 w11 a a10 cap c10 e3 e6 w.heap.size t ls hlt11 c0 c1 c2 HK.out h6 he3 _ _ _ _ _ _ _ _ _ _ _ _ _ _ _ _ _ _ _ _ _ _ _ _ _ _ _ _ _ _ _ _ _ _ _ _ _ _ _ _ _ _ _ _ _ _ _ _ _ _ _ _ _ _ _ _ _ _ _ _ _ _ _ _ _ _ _ _ _ _ _ _ _ _ _ _ _ _ _ _ _ _ _ _ _ _ _ _ _ _ _ _ _ _ _ _ _ _ _ _ _ _ _ _ _ _ _ _ _ _ _ _ _ _ _ _ _ _ _ _ _ _ _ _ _ (by kernel_rfl) ⟨Below.refl _ _⟩) ?_
        rintro ex u U ⟨rfl, h2, hd, hU⟩
        go_wp2_with fail
        have BE := hb0.trans ((B11.trans (hU.low.mono B11.size)).mono (by omega))
        refine bodyPost_ret (v := .bool true) (by simp [results, Tryd.results5, go_sem, h2]) hd ⟨rfl, BE⟩
      · have h5' : (((e5 : Nat) : Int) != 0) = true := by simp; omega
        have KK : KP w11 l d xs a cap e6 t := ⟨fun W h => (HF.out.text t W T2.out.s_le).mono fun e w' h2 => ⟨h2.1, up h h2.2⟩, fun h6 W h => (sm.out (M.textI t) none 0 W false t [] rfl (T2.out.addr h6) h (.nil_ (by decide))).mono fun e w' h2 => ⟨h2.1, up h h2.2⟩⟩
        have HK := Lib.hid KK
        clear KK
        go_wp2_with fail
        refine region_quiet (C := fun W => Below w11.heap.size w11 W) (by kernel_rfl) (by kernel_rfl) (Below.drew (Below.refl _ _)) ?_
        refine fq0 w11 l d xs a a10 cap c10 e3 e5 e6 w.heap.size t ls _ hlt11 c0 c1 c2 HK.out h5' heq.out _ _ _ _ _ _ _ _ _ _ _ _ _ _ _ _ _ _ _ _ _ _ _ _ _ _ _ _ _ _ _ _ _ _ _ _ _ _ _ _ _ _ _ _ _ _ _ _ _ _ _ _ _ _ _ _ _ _ _ _ _ _ _ _ _ _ _ _ _ _ _ _ _ _ _ _ _ _ _ _ _ _ _ _ _ _ _ _ _ _ _ _ _ _ _ _ _ _ _ _ _ _ _ _ _ _ _ _ _ _ _ _ _ _ _ _ _ _ _ _ _ _ _ _ _ (by kernel_rfl) ?_
        intros
        rename_i w12 hb12
        have BE := Lib.hid (hb0.trans ((B11.trans (hb12.mono B11.size)).mono (by omega)))
        go_wp2_with fail
        go_ret
        exact ⟨rfl, BE.out⟩
    · have hk' : ¬ ((M.checkI (.mk l d xs) : Nat) : Int) = 0 := by omega
      go_wp2_with fail
      go_ret
      exact ⟨rfl, hb0.trans (B3.mono (by omega))⟩
end Go.Proofs.YtebkmlbpngpmdaaDoor
