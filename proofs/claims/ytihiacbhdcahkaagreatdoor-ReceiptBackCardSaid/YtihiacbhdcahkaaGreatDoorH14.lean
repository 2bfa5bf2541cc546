/- The landed package field: GetNumber, GetWord, GetText, GetBool, GetAddr. The landed package field: GetAddr, GetText; how many there may be. Package receipt: what is read of one item. -/
import Derived.Test.YtihiacbhdcahkaaGreatDoorH13
import Derived.Test.YtihiacbhdcahkaaGreatDoorH07
namespace Go.Proofs.YtihiacbhdcahkaaGreatDoor
open Go Go.RowKit

theorem Rd.form {W : World} {l : Bool} {d : List UInt8} {xs : List M.It} {a : Option Addr} {cap : Nat} (h : Rd W l d xs a cap) : l = false → xs = [] := (M.formI_ok h.2.2.2).2

set_option maxRecDepth 100000 in
set_option maxHeartbeats 4000000 in
theorem get_number : GNumberOk := by
  intro l d xs a cap w hR
  have HU := Lib.hid (fun W => ofnum_any l d xs a cap hR.form W)
  have hb0 : Below w.heap.size w (w.alloc (.cells #[.bool l, .string ⟨d.toArray⟩, .slice a xs.length cap] 45)) := by (repeat (first | exact Below.refl _ _ | refine Below.drew ?_ | refine Below.alloc ?_ (by first | omega | (simp; omega) | simp) _ | refine Below.setCell ?_ (by first | omega | (simp; omega) | simp) _))
  clear hR
  generalize M.getNumber (.mk l d xs) = r at *
  go_enter Tryz.func68, Tryz.ntmps68
  go_wp2_with fail
  refine (HU.out _).mono ?_
  rintro e w1 ⟨rfl, hb1⟩
  go_wp2_with fail
  go_ret2
  exact ⟨rfl, hb0.trans (hb1.mono (by simp))⟩

set_option maxRecDepth 100000 in
set_option maxHeartbeats 4000000 in
theorem bool_read (d : List UInt8) (w : World) : Calls Tryz.prog 106 #[.string ⟨d.toArray⟩] w fun e w' => e = .returned (.tuple #[.bool (M.gBool d).1, .int .i64 ((M.gBool d).2 : Nat)]) ∧ Below w.heap.size w w' := by
  by_cases h0 : d = []
  · subst h0
    go_enter Tryz.func106, Tryz.ntmps106
    go_wp2_with fail
    go_ret2
    exact ⟨rfl, Below.refl _ _⟩
  · by_cases h1 : d = [1]
    · subst h1
      go_enter Tryz.func106, Tryz.ntmps106
      go_wp2_with fail
      go_ret2
      exact ⟨rfl, Below.refl _ _⟩
    · have e : M.gBool d = (false, 2) := by simp [M.gBool, h0, h1]
      rw [e]
      have e0 : d.isEmpty = false := by simpa using h0
      have e1 : (d == [1]) = false := by simpa using h1
      clear e h1
      go_enter Tryz.func106, Tryz.ntmps106
      go_wp2_with fail
      go_ret2
      exact ⟨rfl, Below.refl _ _⟩

set_option maxRecDepth 100000 in
set_option maxHeartbeats 4000000 in
theorem get_bool : GBoolOk := by
  intro l d xs a cap w hR
  have E1 : ∀ args w, (callFunc 106 args).run Tryz.prog w = .ok (.enter 106 args) w := enters_of Tryz.func106 (by kernel_rfl) rfl
  have HU := Lib.hid (fun W => ofbool_any 106 E1 l d xs a cap hR.form (M.getBool (.mk l d xs)) W (fun h => by subst h; rfl) (fun h V => by subst h; exact bool_read d V))
  have hb0 : Below w.heap.size w (w.alloc (.cells #[.bool l, .string ⟨d.toArray⟩, .slice a xs.length cap] 45)) := by (repeat (first | exact Below.refl _ _ | refine Below.drew ?_ | refine Below.alloc ?_ (by first | omega | (simp; omega) | simp) _ | refine Below.setCell ?_ (by first | omega | (simp; omega) | simp) _))
  clear hR E1
  generalize M.getBool (.mk l d xs) = r at *
  go_enter Tryz.func66, Tryz.ntmps66
  go_wp2_with fail
  refine (HU.out _).mono ?_
  rintro e w1 ⟨rfl, hb1⟩
  go_wp2_with fail
  go_ret2
  exact ⟨rfl, hb0.trans (hb1.mono (by simp))⟩
end Go.Proofs.YtihiacbhdcahkaaGreatDoor
namespace Go.Proofs.YtihiacbhdcahkaaGreatDoor
open Go Go.RowKit

theorem Rd.len {W : World} {l : Bool} {d : List UInt8} {xs : List M.It} {a : Option Addr} {cap : Nat} (h : Rd W l d xs a cap) : d.length ≤ 140737488355328 := by
  have := h.2.1
  rw [M.smI] at this
  exact this.1

set_option maxRecDepth 100000 in
set_option maxHeartbeats 4000000 in
theorem count_any (n : Nat) (least most : Int) (w : World) : Calls Tryz.prog 252 #[.int .i64 n, .int .i64 least, .int .i64 most] w fun e w' => e = .returned (.int .i64 (M.within n least most : Nat)) ∧ Below w.heap.size w w' := by
  by_cases h0 : (n : Int) < least
  · rw [show M.within n least most = 3 by simp [M.within, h0]]
    go_enter Tryz.func252, Tryz.ntmps252
    go_wp2_with fail
    go_ret
    exact ⟨rfl, Below.refl _ _⟩
  · by_cases h1 : most < (n : Int)
    · rw [show M.within n least most = 5 by simp [M.within, h0, h1]]
      go_enter Tryz.func252, Tryz.ntmps252
      go_wp2_with fail
      go_ret
      exact ⟨rfl, Below.refl _ _⟩
    · rw [show M.within n least most = 0 by simp [M.within, h0, h1]]
      go_enter Tryz.func252, Tryz.ntmps252
      go_wp2_with fail
      go_ret
      exact ⟨rfl, Below.refl _ _⟩

set_option maxRecDepth 100000 in
set_option maxHeartbeats 4000000 in
theorem text_read (d : List UInt8) (hd : d.length ≤ 140737488355328) (least most : Int) (p q : Nat) (w : World) (hp : w.cell? ⟨p, 0, none⟩ = some (.int .i64 least)) (hq : w.cell? ⟨q, 0, none⟩ = some (.int .i64 most)) :
    Calls Tryz.prog 257 #[.string ⟨d.toArray⟩, .pointer (some ⟨p, 0, none⟩), .pointer (some ⟨q, 0, none⟩)] w fun e w' => e = .returned (.tuple #[.string ⟨(M.gText least most d).1.toArray⟩, .int .i64 ((M.gText least most d).2 : Nat)]) ∧ Below w.heap.size w w' := by
  have HC := Lib.hid (fun W => clone_any d W (by omega))
  have HN := Lib.hid (fun W => count_any d.length least most W)
  by_cases h : M.within d.length least most = 0
  · rw [show M.gText least most d = (d, 0) by simp [M.gText, h]]
    rw [h] at HN
    clear h
    go_enter Tryz.func257, Tryz.ntmps257
    go_wp2_with fail
    refine (HN.out _).mono ?_
    rintro e w1 ⟨rfl, hb1⟩
    go_wp2_with fail
    refine (HC.out _).mono ?_
    rintro e w2 ⟨rfl, hb2⟩
    go_wp2_with fail
    go_ret2
    exact ⟨rfl, hb1.trans (hb2.mono hb1.size)⟩
  · rw [show M.gText least most d = ([], M.within d.length least most) by simp [M.gText, h]]
    generalize M.within d.length least most = k at *
    have hk : ¬ ((k : Nat) : Int) = 0 := by omega
    go_enter Tryz.func257, Tryz.ntmps257
    go_wp2_with fail
    refine (HN.out _).mono ?_
    rintro e w1 ⟨rfl, hb1⟩
    go_wp2_with fail
    go_ret2
    exact ⟨rfl, hb1⟩

set_option maxRecDepth 100000 in
set_option maxHeartbeats 4000000 in
theorem get_text : GTextOk := by
  intro l d xs a cap least most w hR
  have E1 : ∀ args w, (callFunc 257 args).run Tryz.prog w = .ok (.enter 257 args) w := enters_of Tryz.func257 (by kernel_rfl) rfl
  have HU : Hid (∀ p q W, W.cell? ⟨p, 0, none⟩ = some (.int .i64 least) → W.cell? ⟨q, 0, none⟩ = some (.int .i64 most) → p < W.heap.size → q < W.heap.size →
      Calls Tryz.prog 256 #[iv l d (.slice a xs.length cap), .func (.func 257) #[] #[.pointer (some ⟨p, 0, none⟩), .pointer (some ⟨q, 0, none⟩)]] W fun e w' => e = .returned (.tuple #[.string ⟨(M.getText least most (.mk l d xs)).1.toArray⟩, .int .i64 ((M.getText least most (.mk l d xs)).2 : Nat)]) ∧ Below W.heap.size W w') := Lib.hid fun p q W hp hq hlp hlq =>
    ofstr_any 257 #[.pointer (some ⟨p, 0, none⟩), .pointer (some ⟨q, 0, none⟩)] E1 l d xs a cap hR.form (M.getText least most (.mk l d xs)) W (fun h => by subst h; rfl) (fun h V hV => by subst h; exact text_read d hR.len least most p q V ((hV.cell (p := ⟨p, 0, none⟩) hlp).trans hp) ((hV.cell (p := ⟨q, 0, none⟩) hlq).trans hq))
  clear hR E1
  generalize M.getText least most (.mk l d xs) = r at *
  go_enter Tryz.func188, Tryz.ntmps188
  go_wp2_with fail
  refine (HU.out _ _ _ (by simp [go_sem]) (by simp [go_sem]) (by first | omega | (simp; omega) | simp) (by first | omega | (simp; omega) | simp)).mono ?_
  rintro e w1 ⟨rfl, hb1⟩
  go_wp2_with fail
  go_ret2
  refine ⟨rfl, Below.trans ?_ (hb1.mono (by first | omega | (simp; omega) | simp))⟩
  (repeat (first | exact Below.refl _ _ | refine Below.drew ?_ | refine Below.alloc ?_ (by first | omega | (simp; omega) | simp) _ | refine Below.setCell ?_ (by first | omega | (simp; omega) | simp) _))
end Go.Proofs.YtihiacbhdcahkaaGreatDoor
namespace Go.Proofs.YtihiacbhdcahkaaGreatDoor
open Go Go.RowKit Go.Lib
attribute [local go_sem] Oper.semAt_some

theorem Rd.kept {w W : World} {l : Bool} {d : List UInt8} {xs : List M.It} {a : Option Addr} {cap : Nat} (h : Rd w l d xs a cap) (hb : Below w.heap.size w W) : Rd W l d xs a cap := ⟨(h.1.from_ hb).mono hb.size, h.2⟩
/-- Text of one length, or of no form. -/
def rText (n : Int) (x : M.It) : List UInt8 × Nat := if (M.getText n n x).2 = 0 then ((M.getText n n x).1, 0) else ([], 2)
/-- A version that is told. -/
def rVersion (x : M.It) : Nat × Nat := if (M.getNumber x).2 = 0 ∧ (M.getNumber x).1 ≠ 1 then (0, 2) else M.getNumber x
set_option maxRecDepth 100000 in
set_option maxHeartbeats 2000000 in
theorem rtext_any (l : Bool) (d : List UInt8) (xs : List M.It) (a : Option Addr) (cap : Nat) (n : Int) (w : World) (hR : Rd w l d xs a cap) : Calls Tryz.prog 186 #[iv l d (.slice a xs.length cap), .int .i64 n] w fun e w' =>
    e = .returned (.tuple #[.string ⟨(rText n (.mk l d xs)).1.toArray⟩, .int .i64 ((rText n (.mk l d xs)).2 : Nat)]) ∧ Below w.heap.size w w' := by
  have HU := Lib.hid (fun W (h : Below w.heap.size w W) => get_text l d xs a cap n n W (hR.kept h))
  have hb0 := (Below.refl w.heap.size w).alloc (Nat.le_refl _) (.cells #[.bool l, .string ⟨d.toArray⟩, .slice a xs.length cap] 45)
  have hp : rText n (.mk l d xs) = if (M.getText n n (.mk l d xs)).2 = 0 then ((M.getText n n (.mk l d xs)).1, 0) else ([], 2) := rfl
  rw [hp]
  clear hR hp
  generalize M.getText n n (.mk l d xs) = r at *
  obtain ⟨r1, r2⟩ := r
  by_cases hr : r2 = 0
  · subst hr
    go_enter Tryz.func186, Tryz.ntmps186
    go_wp2_with fail
    refine (HU.out _ hb0).mono ?_
    rintro e W ⟨rfl, hb⟩
    go_wp2_with fail
    go_ret2
    exact ⟨rfl, hb0.trans (hb.mono hb0.size)⟩
  · have hr1 : ((r2 : Int) == 0) = false := by simp [hr]
    rw [if_neg hr]
    go_enter Tryz.func186, Tryz.ntmps186
    go_wp2_with fail
    refine (HU.out _ hb0).mono ?_
    rintro e W ⟨rfl, hb⟩
    go_wp2_with fail
    go_ret2
    exact ⟨rfl, hb0.trans (hb.mono hb0.size)⟩
set_option maxRecDepth 100000 in
set_option maxHeartbeats 2000000 in
theorem raddr_any (l : Bool) (d : List UInt8) (xs : List M.It) (a : Option Addr) (cap : Nat) (w : World) (hR : Rd w l d xs a cap) : Calls Tryz.prog 110 #[iv l d (.slice a xs.length cap)] w fun e w' =>
    e = .returned (.tuple #[.string ⟨(rText 20 (.mk l d xs)).1.toArray⟩, .int .i64 ((rText 20 (.mk l d xs)).2 : Nat)]) ∧ Below w.heap.size w w' := by
  have HU := Lib.hid (fun W (h : Below w.heap.size w W) => rtext_any l d xs a cap 20 W (hR.kept h))
  have hb0 := (Below.refl w.heap.size w).alloc (Nat.le_refl _) (.cells #[.bool l, .string ⟨d.toArray⟩, .slice a xs.length cap] 45)
  clear hR
  generalize rText 20 (.mk l d xs) = r at *
  go_enter Tryz.func110, Tryz.ntmps110
  go_wp2_with fail
  refine (HU.out _ hb0).mono ?_
  rintro e W ⟨rfl, hb⟩
  go_wp2_with fail
  go_ret2
  exact ⟨rfl, hb0.trans (hb.mono hb0.size)⟩
set_option maxRecDepth 100000 in
set_option maxHeartbeats 2000000 in
theorem rtopic_any (l : Bool) (d : List UInt8) (xs : List M.It) (a : Option Addr) (cap : Nat) (w : World) (hR : Rd w l d xs a cap) : Calls Tryz.prog 187 #[iv l d (.slice a xs.length cap)] w fun e w' =>
    e = .returned (.tuple #[.string ⟨(rText 32 (.mk l d xs)).1.toArray⟩, .int .i64 ((rText 32 (.mk l d xs)).2 : Nat)]) ∧ Below w.heap.size w w' := by
  have HU := Lib.hid (fun W (h : Below w.heap.size w W) => rtext_any l d xs a cap 32 W (hR.kept h))
  have hb0 := (Below.refl w.heap.size w).alloc (Nat.le_refl _) (.cells #[.bool l, .string ⟨d.toArray⟩, .slice a xs.length cap] 45)
  clear hR
  generalize rText 32 (.mk l d xs) = r at *
  go_enter Tryz.func187, Tryz.ntmps187
  go_wp2_with fail
  refine (HU.out _ hb0).mono ?_
  rintro e W ⟨rfl, hb⟩
  go_wp2_with fail
  go_ret2
  exact ⟨rfl, hb0.trans (hb.mono hb0.size)⟩
set_option maxRecDepth 100000 in
set_option maxHeartbeats 2000000 in
theorem rdata_any (l : Bool) (d : List UInt8) (xs : List M.It) (a : Option Addr) (cap : Nat) (w : World) (hR : Rd w l d xs a cap) : Calls Tryz.prog 113 #[iv l d (.slice a xs.length cap)] w fun e w' =>
    e = .returned (.tuple #[.string ⟨(M.getText 0 4096 (.mk l d xs)).1.toArray⟩, .int .i64 ((M.getText 0 4096 (.mk l d xs)).2 : Nat)]) ∧ Below w.heap.size w w' := by
  have HU := Lib.hid (fun W (h : Below w.heap.size w W) => get_text l d xs a cap 0 4096 W (hR.kept h))
  have hb0 := (Below.refl w.heap.size w).alloc (Nat.le_refl _) (.cells #[.bool l, .string ⟨d.toArray⟩, .slice a xs.length cap] 45)
  clear hR
  generalize M.getText 0 4096 (.mk l d xs) = r at *
  go_enter Tryz.func113, Tryz.ntmps113
  go_wp2_with fail
  refine (HU.out _ hb0).mono ?_
  rintro e W ⟨rfl, hb⟩
  go_wp2_with fail
  go_ret2
  exact ⟨rfl, hb0.trans (hb.mono hb0.size)⟩
set_option maxRecDepth 100000 in
set_option maxHeartbeats 2000000 in
theorem rversion_any (l : Bool) (d : List UInt8) (xs : List M.It) (a : Option Addr) (cap : Nat) (w : World) (hR : Rd w l d xs a cap) : Calls Tryz.prog 71 #[iv l d (.slice a xs.length cap)] w fun e w' =>
    e = .returned (.tuple #[.int .u64 ((rVersion (.mk l d xs)).1 : Nat), .int .i64 ((rVersion (.mk l d xs)).2 : Nat)]) ∧ Below w.heap.size w w' := by
  have HU := Lib.hid (fun W (h : Below w.heap.size w W) => get_number l d xs a cap W (hR.kept h))
  have hb0 := (Below.refl w.heap.size w).alloc (Nat.le_refl _) (.cells #[.bool l, .string ⟨d.toArray⟩, .slice a xs.length cap] 45)
  have hp : rVersion (.mk l d xs) = if (M.getNumber (.mk l d xs)).2 = 0 ∧ (M.getNumber (.mk l d xs)).1 ≠ 1 then (0, 2) else M.getNumber (.mk l d xs) := rfl
  rw [hp]
  clear hR hp
  generalize M.getNumber (.mk l d xs) = r at *
  obtain ⟨r1, r2⟩ := r
  by_cases hr : r2 = 0
  · subst hr
    by_cases h1 : r1 = 1
    · subst h1
      go_enter Tryz.func71, Tryz.ntmps71
      go_wp2_with fail
      refine (HU.out _ hb0).mono ?_
      rintro e W ⟨rfl, hb⟩
      go_wp2_with fail
      go_ret2
      exact ⟨rfl, hb0.trans (hb.mono hb0.size)⟩
    · have h1' : ((r1 : Int) == 1) = false := by simp; omega
      have h1n : ((r1 : Int) != 1) = true := by simp; omega
      have h1x : ¬ (r1 : Int) = 1 := by omega
      rw [if_pos ⟨rfl, h1⟩]
      go_enter Tryz.func71, Tryz.ntmps71
      go_wp2_with fail
      refine (HU.out _ hb0).mono ?_
      rintro e W ⟨rfl, hb⟩
      go_wp2_with fail
      go_ret2
      exact ⟨rfl, hb0.trans (hb.mono hb0.size)⟩
  · have hr1 : ((r2 : Int) == 0) = false := by simp [hr]
    have hrx : ¬ (r2 : Int) = 0 := by omega
    rw [if_neg (fun h => hr h.1)]
    go_enter Tryz.func71, Tryz.ntmps71
    go_wp2_with fail
    refine (HU.out _ hb0).mono ?_
    rintro e W ⟨rfl, hb⟩
    go_wp2_with fail
    go_ret2
    exact ⟨rfl, hb0.trans (hb.mono hb0.size)⟩
end Go.Proofs.YtihiacbhdcahkaaGreatDoor
