/- The landed package field: what is read of an item's bytes; The landed package field: a word read of an item's bytes; The landed package field: GetNumber, GetWord, GetText, GetBool, GetAddr; The landed package field: GetAddr, GetText; how many there may be; The landed package field: items copied; The landed package field: copied, of items that are bytes; List, GetList; The landed package field: numbers, words, bytes, yes or no, as items; The landed package field: Texts; The landed package field: GetTexts; The landed package field does what the laws lean on. -/
import Derived.Test.YtebkmlbpngpmdaaDoorG9g
import Derived.Test.YtebkmlbpngpmdaaDoorG14g
import Derived.Test.YtebkmlbpngpmdaaDoorJ3g
import Derived.Test.YtebkmlbpngpmdaaDoorI1g
import Derived.Lib.SliceRun
import Derived.Test.YtebkmlbpngpmdaaDoorW9g
import Derived.Laws.CopyRow
namespace Go.Proofs.YtebkmlbpngpmdaaDoor
open Go Go.RowKit

set_option maxRecDepth 100000 in
set_option maxHeartbeats 4000000 in
theorem ofnum_any (l : Bool) (d : List UInt8) (xs : List M.It) (a : Option Addr) (cap : Nat) (hf : l = false → xs = []) (w : World) :
    Calls Tryd.prog 37 #[iv l d (.slice a xs.length cap), .func (.func 38) #[] #[]] w fun e w' => e = .returned (.tuple #[.int .u64 ((M.getNumber (.mk l d xs)).1 : Nat), .int .i64 ((M.getNumber (.mk l d xs)).2 : Nat)]) ∧ Below w.heap.size w w' := by
  have HU := Lib.hid (fun W => unbe_any d W)
  have E1 : ∀ args w, (callFunc 38 args).run Tryd.prog w = .ok (.enter 38 args) w := enters_of Tryd.func38 (by kernel_rfl) rfl
  have hb0 : Below w.heap.size w (w.alloc (.cells #[.bool l, .string ⟨d.toArray⟩, .slice a xs.length cap] 30)) := by (repeat (first | exact Below.refl _ _ | refine Below.drew ?_ | refine Below.alloc ?_ (by first | omega | (simp; omega) | simp) _ | refine Below.setCell ?_ (by first | omega | (simp; omega) | simp) _))
  cases l with
  | true =>
    go_enter Tryd.func37, Tryd.ntmps37
    go_wp2_with fail
    go_ret2
    exact ⟨rfl, hb0⟩
  | false =>
    obtain rfl := hf rfl
    go_enter Tryd.func37, Tryd.ntmps37
    go_wp2_with fail
    refine (HU.out _).mono ?_
    rintro e w1 ⟨rfl, hb1⟩
    go_wp2_with fail
    go_ret2
    exact ⟨rfl, hb0.trans (hb1.mono (by simp))⟩

/-- Bytes read of an item, by whatever function: it may have captured something. -/
theorem ofstr_any (g : FuncId) (caps : Array Value) (E1 : ∀ args w, (callFunc g args).run Tryd.prog w = .ok (.enter g args) w) (l : Bool) (d : List UInt8) (xs : List M.It) (a : Option Addr) (cap : Nat) (hf : l = false → xs = []) (r : List UInt8 × Nat) (w : World)
    (hr : l = true → r = ([], 2)) (H : l = false → ∀ W, Below w.heap.size w W → Calls Tryd.prog g (#[.string ⟨d.toArray⟩] ++ caps) W fun e w' => e = .returned (.tuple #[.string ⟨r.1.toArray⟩, .int .i64 (r.2 : Nat)]) ∧ Below W.heap.size W w') :
    Calls Tryd.prog 41 #[iv l d (.slice a xs.length cap), .func (.func g) #[] caps] w fun e w' => e = .returned (.tuple #[.string ⟨r.1.toArray⟩, .int .i64 (r.2 : Nat)]) ∧ Below w.heap.size w w' := by
  have hb0 : Below w.heap.size w (w.alloc (.cells #[.bool l, .string ⟨d.toArray⟩, .slice a xs.length cap] 30)) := by (repeat (first | exact Below.refl _ _ | refine Below.drew ?_ | refine Below.alloc ?_ (by first | omega | (simp; omega) | simp) _ | refine Below.setCell ?_ (by first | omega | (simp; omega) | simp) _))
  cases l with
  | true =>
    obtain rfl := hr rfl
    clear H
    go_enter Tryd.func41, Tryd.ntmps41
    go_wp2_with fail
    go_ret2
    exact ⟨rfl, hb0⟩
  | false =>
    obtain rfl := hf rfl
    have HU := Lib.hid (H rfl)
    clear H
    go_enter Tryd.func41, Tryd.ntmps41
    go_wp2_with fail
    refine (HU.out _ hb0).mono ?_
    rintro e w1 ⟨rfl, hb1⟩
    go_wp2_with fail
    go_ret2
    exact ⟨rfl, hb0.trans (hb1.mono (by simp))⟩

theorem ofbool_any (g : FuncId) (E1 : ∀ args w, (callFunc g args).run Tryd.prog w = .ok (.enter g args) w) (l : Bool) (d : List UInt8) (xs : List M.It) (a : Option Addr) (cap : Nat) (hf : l = false → xs = []) (r : Bool × Nat) (w : World)
    (hr : l = true → r = (false, 2)) (H : l = false → ∀ W, Calls Tryd.prog g #[.string ⟨d.toArray⟩] W fun e w' => e = .returned (.tuple #[.bool r.1, .int .i64 (r.2 : Nat)]) ∧ Below W.heap.size W w') :
    Calls Tryd.prog 44 #[iv l d (.slice a xs.length cap), .func (.func g) #[] #[]] w fun e w' => e = .returned (.tuple #[.bool r.1, .int .i64 (r.2 : Nat)]) ∧ Below w.heap.size w w' := by
  have hb0 : Below w.heap.size w (w.alloc (.cells #[.bool l, .string ⟨d.toArray⟩, .slice a xs.length cap] 30)) := by (repeat (first | exact Below.refl _ _ | refine Below.drew ?_ | refine Below.alloc ?_ (by first | omega | (simp; omega) | simp) _ | refine Below.setCell ?_ (by first | omega | (simp; omega) | simp) _))
  cases l with
  | true =>
    obtain rfl := hr rfl
    clear H
    go_enter Tryd.func44, Tryd.ntmps44
    go_wp2_with fail
    go_ret2
    exact ⟨rfl, hb0⟩
  | false =>
    obtain rfl := hf rfl
    have HU := Lib.hid (H rfl)
    clear H
    go_enter Tryd.func44, Tryd.ntmps44
    go_wp2_with fail
    refine (HU.out _).mono ?_
    rintro e w1 ⟨rfl, hb1⟩
    go_wp2_with fail
    go_ret2
    exact ⟨rfl, hb0.trans (hb1.mono (by simp))⟩
end Go.Proofs.YtebkmlbpngpmdaaDoor
namespace Go.Proofs.YtebkmlbpngpmdaaDoor
open Go Go.RowKit

set_option maxRecDepth 100000 in
set_option maxHeartbeats 4000000 in
theorem ofword_any (l : Bool) (d : List UInt8) (xs : List M.It) (a : Option Addr) (cap : Nat) (hf : l = false → xs = []) (w : World) :
    Calls Tryd.prog 39 #[iv l d (.slice a xs.length cap), .func (.func 40) #[] #[]] w fun e w' => e = .returned (.tuple #[wn (M.getWord (.mk l d xs)).1, .int .i64 ((M.getWord (.mk l d xs)).2 : Nat)]) ∧ Below w.heap.size w w' := by
  have HU := Lib.hid (fun W => parse_any d W)
  have E1 : ∀ args w, (callFunc 40 args).run Tryd.prog w = .ok (.enter 40 args) w := enters_of Tryd.func40 (by kernel_rfl) rfl
  cases l with
  | true =>
    rw [show M.getWord (.mk true d xs) = (0, 2) from rfl, wn_zero]
    go_enter Tryd.func39, Tryd.ntmps39
    go_wp2_with fail
    refine bodyPost_ret (v := .tuple #[wd 0 0 0 0, .int .i64 2]) (by simp [results, Tryd.results39, go_sem]) rfl ⟨rfl, ?_⟩
    (repeat (first | exact Below.refl _ _ | refine Below.drew ?_ | refine Below.alloc ?_ (by first | omega | (simp; omega) | simp) _ | refine Below.setCell ?_ (by first | omega | (simp; omega) | simp) _))
  | false =>
    obtain rfl := hf rfl
    rw [show M.getWord (.mk false d []) = M.pw d from rfl]
    generalize M.pw d = r at *
    go_enter Tryd.func39, Tryd.ntmps39
    go_wp2_with fail
    refine (HU.out _).mono ?_
    rintro e w1 ⟨rfl, hb1⟩
    obtain ⟨hce, hfr⟩ := bcell hb1
    go_wp2_with fail
    refine bodyPost_ret (v := .tuple #[wn r.1, .int .i64 (r.2 : Nat)]) (by simp [results, Tryd.results39, go_sem, hce]) rfl ⟨rfl, ?_⟩
    refine Below.setCell (Below.setCell (Below.setCell (Below.setCell (Below.trans ?_ (hb1.mono (by first | omega | (simp; omega) | simp))) (by first | omega | (simp; omega) | simp) _) (by first | omega | (simp; omega) | simp) _) (by first | omega | (simp; omega) | simp) _) (by first | omega | (simp; omega) | simp) _
    (repeat (first | exact Below.refl _ _ | refine Below.drew ?_ | refine Below.alloc ?_ (by first | omega | (simp; omega) | simp) _ | refine Below.setCell ?_ (by first | omega | (simp; omega) | simp) _))
end Go.Proofs.YtebkmlbpngpmdaaDoor
namespace Go.Proofs.YtebkmlbpngpmdaaDoor
open Go Go.RowKit

theorem Rd.form {W : World} {l : Bool} {d : List UInt8} {xs : List M.It} {a : Option Addr} {cap : Nat} (h : Rd W l d xs a cap) : l = false → xs = [] := (M.formI_ok h.2.2.2).2

set_option maxRecDepth 100000 in
set_option maxHeartbeats 4000000 in
theorem get_number : GNumberOk := by
  intro l d xs a cap w hR
  have HU := Lib.hid (fun W => ofnum_any l d xs a cap hR.form W)
  have hb0 : Below w.heap.size w (w.alloc (.cells #[.bool l, .string ⟨d.toArray⟩, .slice a xs.length cap] 30)) := by (repeat (first | exact Below.refl _ _ | refine Below.drew ?_ | refine Below.alloc ?_ (by first | omega | (simp; omega) | simp) _ | refine Below.setCell ?_ (by first | omega | (simp; omega) | simp) _))
  clear hR
  generalize M.getNumber (.mk l d xs) = r at *
  go_enter Tryd.func20, Tryd.ntmps20
  go_wp2_with fail
  refine (HU.out _).mono ?_
  rintro e w1 ⟨rfl, hb1⟩
  go_wp2_with fail
  go_ret2
  exact ⟨rfl, hb0.trans (hb1.mono (by simp))⟩

set_option maxRecDepth 100000 in
set_option maxHeartbeats 4000000 in
theorem get_word : GWordOk := by
  intro l d xs a cap w hR
  have HU := Lib.hid (fun W => ofword_any l d xs a cap hR.form W)
  clear hR
  generalize M.getWord (.mk l d xs) = r at *
  go_enter Tryd.func21, Tryd.ntmps21
  go_wp2_with fail
  refine (HU.out _).mono ?_
  rintro e w1 ⟨rfl, hb1⟩
  obtain ⟨hce, hfr⟩ := bcell hb1
  go_wp2_with fail
  refine bodyPost_ret (v := .tuple #[wn r.1, .int .i64 (r.2 : Nat)]) (by simp [results, Tryd.results21, go_sem, hce]) rfl ⟨rfl, ?_⟩
  refine Below.setCell (Below.setCell (Below.setCell (Below.setCell (Below.trans ?_ (hb1.mono (by first | omega | (simp; omega) | simp))) (by first | omega | (simp; omega) | simp) _) (by first | omega | (simp; omega) | simp) _) (by first | omega | (simp; omega) | simp) _) (by first | omega | (simp; omega) | simp) _
  (repeat (first | exact Below.refl _ _ | refine Below.drew ?_ | refine Below.alloc ?_ (by first | omega | (simp; omega) | simp) _ | refine Below.setCell ?_ (by first | omega | (simp; omega) | simp) _))

set_option maxRecDepth 100000 in
set_option maxHeartbeats 4000000 in
theorem bool_read (d : List UInt8) (w : World) : Calls Tryd.prog 45 #[.string ⟨d.toArray⟩] w fun e w' => e = .returned (.tuple #[.bool (M.gBool d).1, .int .i64 ((M.gBool d).2 : Nat)]) ∧ Below w.heap.size w w' := by
  by_cases h0 : d = []
  · subst h0
    go_enter Tryd.func45, Tryd.ntmps45
    go_wp2_with fail
    go_ret2
    exact ⟨rfl, Below.refl _ _⟩
  · by_cases h1 : d = [1]
    · subst h1
      go_enter Tryd.func45, Tryd.ntmps45
      go_wp2_with fail
      go_ret2
      exact ⟨rfl, Below.refl _ _⟩
    · have e : M.gBool d = (false, 2) := by simp [M.gBool, h0, h1]
      rw [e]
      have e0 : d.isEmpty = false := by simpa using h0
      have e1 : (d == [1]) = false := by simpa using h1
      clear e h1
      go_enter Tryd.func45, Tryd.ntmps45
      go_wp2_with fail
      go_ret2
      exact ⟨rfl, Below.refl _ _⟩

set_option maxRecDepth 100000 in
set_option maxHeartbeats 4000000 in
theorem get_bool : GBoolOk := by
  intro l d xs a cap w hR
  have E1 : ∀ args w, (callFunc 45 args).run Tryd.prog w = .ok (.enter 45 args) w := enters_of Tryd.func45 (by kernel_rfl) rfl
  have HU := Lib.hid (fun W => ofbool_any 45 E1 l d xs a cap hR.form (M.getBool (.mk l d xs)) W (fun h => by subst h; rfl) (fun h V => by subst h; exact bool_read d V))
  have hb0 : Below w.heap.size w (w.alloc (.cells #[.bool l, .string ⟨d.toArray⟩, .slice a xs.length cap] 30)) := by (repeat (first | exact Below.refl _ _ | refine Below.drew ?_ | refine Below.alloc ?_ (by first | omega | (simp; omega) | simp) _ | refine Below.setCell ?_ (by first | omega | (simp; omega) | simp) _))
  clear hR E1
  generalize M.getBool (.mk l d xs) = r at *
  go_enter Tryd.func23, Tryd.ntmps23
  go_wp2_with fail
  refine (HU.out _).mono ?_
  rintro e w1 ⟨rfl, hb1⟩
  go_wp2_with fail
  go_ret2
  exact ⟨rfl, hb0.trans (hb1.mono (by simp))⟩
end Go.Proofs.YtebkmlbpngpmdaaDoor
namespace Go.Proofs.YtebkmlbpngpmdaaDoor
open Go Go.RowKit

theorem Rd.len {W : World} {l : Bool} {d : List UInt8} {xs : List M.It} {a : Option Addr} {cap : Nat} (h : Rd W l d xs a cap) : d.length ≤ 140737488355328 := by
  have := h.2.1
  rw [M.smI] at this
  exact this.1

set_option maxRecDepth 100000 in
set_option maxHeartbeats 4000000 in
theorem addr_read (d : List UInt8) (hd : d.length ≤ 140737488355328) (w : World) : Calls Tryd.prog 56 #[.string ⟨d.toArray⟩] w fun e w' => e = .returned (.tuple #[.string ⟨(M.gAddr d).1.toArray⟩, .int .i64 ((M.gAddr d).2 : Nat)]) ∧ Below w.heap.size w w' := by
  have HC := Lib.hid (fun W => clone_any d W (by omega))
  by_cases h0 : d = []
  · subst h0
    go_enter Tryd.func56, Tryd.ntmps56
    go_wp2_with fail
    refine (HC.out _).mono ?_
    rintro e w1 ⟨rfl, hb1⟩
    go_wp2_with fail
    go_ret2
    exact ⟨rfl, hb1⟩
  · have e0 : d.isEmpty = false := by simpa using h0
    by_cases h1 : d.length = 20
    · have e : M.gAddr d = (d, 0) := by simp [M.gAddr, h1]
      rw [e]
      have h2 : (d.length : Int) = 20 := by omega
      clear e
      go_enter Tryd.func56, Tryd.ntmps56
      go_wp2_with fail
      refine (HC.out _).mono ?_
      rintro e w1 ⟨rfl, hb1⟩
      go_wp2_with fail
      go_ret2
      exact ⟨rfl, hb1⟩
    · have e : M.gAddr d = ([], 2) := by simp [M.gAddr, h0, h1]
      rw [e]
      have h2 : ¬ (d.length : Int) = 20 := by omega
      clear e
      go_enter Tryd.func56, Tryd.ntmps56
      go_wp2_with fail
      go_ret2
      exact ⟨rfl, Below.refl _ _⟩

set_option maxRecDepth 100000 in
set_option maxHeartbeats 4000000 in
theorem get_addr : GAddrOk := by
  intro l d xs a cap w hR
  have E1 : ∀ args w, (callFunc 56 args).run Tryd.prog w = .ok (.enter 56 args) w := enters_of Tryd.func56 (by kernel_rfl) rfl
  have HU := Lib.hid (fun W => ofstr_any 56 #[] E1 l d xs a cap hR.form (M.getAddr (.mk l d xs)) W (fun h => by subst h; rfl) (fun h V _ => by subst h; exact addr_read d hR.len V))
  have hb0 : Below w.heap.size w (w.alloc (.cells #[.bool l, .string ⟨d.toArray⟩, .slice a xs.length cap] 30)) := by (repeat (first | exact Below.refl _ _ | refine Below.drew ?_ | refine Below.alloc ?_ (by first | omega | (simp; omega) | simp) _ | refine Below.setCell ?_ (by first | omega | (simp; omega) | simp) _))
  clear hR E1
  generalize M.getAddr (.mk l d xs) = r at *
  go_enter Tryd.func29, Tryd.ntmps29
  go_wp2_with fail
  refine (HU.out _).mono ?_
  rintro e w1 ⟨rfl, hb1⟩
  go_wp2_with fail
  go_ret2
  exact ⟨rfl, hb0.trans (hb1.mono (by simp))⟩

set_option maxRecDepth 100000 in
set_option maxHeartbeats 4000000 in
theorem count_any (n : Nat) (least most : Int) (w : World) : Calls Tryd.prog 43 #[.int .i64 n, .int .i64 least, .int .i64 most] w fun e w' => e = .returned (.int .i64 (M.within n least most : Nat)) ∧ Below w.heap.size w w' := by
  by_cases h0 : (n : Int) < least
  · rw [show M.within n least most = 3 by simp [M.within, h0]]
    go_enter Tryd.func43, Tryd.ntmps43
    go_wp2_with fail
    go_ret
    exact ⟨rfl, Below.refl _ _⟩
  · by_cases h1 : most < (n : Int)
    · rw [show M.within n least most = 5 by simp [M.within, h0, h1]]
      go_enter Tryd.func43, Tryd.ntmps43
      go_wp2_with fail
      go_ret
      exact ⟨rfl, Below.refl _ _⟩
    · rw [show M.within n least most = 0 by simp [M.within, h0, h1]]
      go_enter Tryd.func43, Tryd.ntmps43
      go_wp2_with fail
      go_ret
      exact ⟨rfl, Below.refl _ _⟩

set_option maxRecDepth 100000 in
set_option maxHeartbeats 4000000 in
theorem text_read (d : List UInt8) (hd : d.length ≤ 140737488355328) (least most : Int) (p q : Nat) (w : World) (hp : w.cell? ⟨p, 0, none⟩ = some (.int .i64 least)) (hq : w.cell? ⟨q, 0, none⟩ = some (.int .i64 most)) :
    Calls Tryd.prog 42 #[.string ⟨d.toArray⟩, .pointer (some ⟨p, 0, none⟩), .pointer (some ⟨q, 0, none⟩)] w fun e w' => e = .returned (.tuple #[.string ⟨(M.gText least most d).1.toArray⟩, .int .i64 ((M.gText least most d).2 : Nat)]) ∧ Below w.heap.size w w' := by
  have HC := Lib.hid (fun W => clone_any d W (by omega))
  have HN := Lib.hid (fun W => count_any d.length least most W)
  by_cases h : M.within d.length least most = 0
  · rw [show M.gText least most d = (d, 0) by simp [M.gText, h]]
    rw [h] at HN
    clear h
    go_enter Tryd.func42, Tryd.ntmps42
    go_wp2_with fail
    refine (HN.out _).mono ?_
    rintro e w1 ⟨rfl, hb1⟩
    go_wp2_with fail
    refine (HC.out _).mono ?_
    rintro e w2 ⟨rfl, hb2⟩
    go_wp2_with fail
    go_ret2
    exact ⟨rfl, hb1.trans (hb2.mono hb1.size)⟩
  · rw [show M.gText least most d = ([], M.within d.length least most) by simp [M.gText, h]]
    generalize M.within d.length least most = k at *
    have hk : ¬ ((k : Nat) : Int) = 0 := by omega
    go_enter Tryd.func42, Tryd.ntmps42
    go_wp2_with fail
    refine (HN.out _).mono ?_
    rintro e w1 ⟨rfl, hb1⟩
    go_wp2_with fail
    go_ret2
    exact ⟨rfl, hb1⟩

set_option maxRecDepth 100000 in
set_option maxHeartbeats 4000000 in
theorem get_text : GTextOk := by
  intro l d xs a cap least most w hR
  have E1 : ∀ args w, (callFunc 42 args).run Tryd.prog w = .ok (.enter 42 args) w := enters_of Tryd.func42 (by kernel_rfl) rfl
  have HU : Hid (∀ p q W, W.cell? ⟨p, 0, none⟩ = some (.int .i64 least) → W.cell? ⟨q, 0, none⟩ = some (.int .i64 most) → p < W.heap.size → q < W.heap.size →
      Calls Tryd.prog 41 #[iv l d (.slice a xs.length cap), .func (.func 42) #[] #[.pointer (some ⟨p, 0, none⟩), .pointer (some ⟨q, 0, none⟩)]] W fun e w' => e = .returned (.tuple #[.string ⟨(M.getText least most (.mk l d xs)).1.toArray⟩, .int .i64 ((M.getText least most (.mk l d xs)).2 : Nat)]) ∧ Below W.heap.size W w') := Lib.hid fun p q W hp hq hlp hlq =>
    ofstr_any 42 #[.pointer (some ⟨p, 0, none⟩), .pointer (some ⟨q, 0, none⟩)] E1 l d xs a cap hR.form (M.getText least most (.mk l d xs)) W (fun h => by subst h; rfl) (fun h V hV => by subst h; exact text_read d hR.len least most p q V ((hV.cell (p := ⟨p, 0, none⟩) hlp).trans hp) ((hV.cell (p := ⟨q, 0, none⟩) hlq).trans hq))
  clear hR E1
  generalize M.getText least most (.mk l d xs) = r at *
  go_enter Tryd.func22, Tryd.ntmps22
  go_wp2_with fail
  refine (HU.out _ _ _ (by simp [go_sem]) (by simp [go_sem]) (by first | omega | (simp; omega) | simp) (by first | omega | (simp; omega) | simp)).mono ?_
  rintro e w1 ⟨rfl, hb1⟩
  go_wp2_with fail
  go_ret2
  refine ⟨rfl, Below.trans ?_ (hb1.mono (by first | omega | (simp; omega) | simp))⟩
  (repeat (first | exact Below.refl _ _ | refine Below.drew ?_ | refine Below.alloc ?_ (by first | omega | (simp; omega) | simp) _ | refine Below.setCell ?_ (by first | omega | (simp; omega) | simp) _))
end Go.Proofs.YtebkmlbpngpmdaaDoor
namespace Go.Proofs.YtebkmlbpngpmdaaDoor
open Go Go.RowKit

theorem wpList_append_run {P : Program} {ops : Array Oper} {rest : List Oper} {o : Oper} {a : Act} {w w' : World} {Q : Exit → Act → World → Prop} (hgd : o.guard = none) (s x : Operand) (ats : Array TypeId)
    (ho : o.op = .call { callee := .builtin .append, args := #[s, x], argTypes := ats }) (v u v' : Value) (hs : a.eval s = v) (hx : a.eval x = u) (hr : (Builtin.append_ ats o.type #[v, u]).run P w = .ok v' w')
    (h : wpList P ops Q rest (a.put o.dst v') w') : wpList P ops Q (o :: rest) a w := by
  refine wpList_plain hgd fun _ hK => ?_
  unfold Oper.wp execOp
  simp only [ho, resolve, invoke, builtin, Sem.run_bind, Sem.run_pure, Result.andThen_ok, List.map_toArray, List.map_cons, List.map_nil, hs, hx, hr]
  exact hK _ _ h

/-- What lies in cells: items that are bytes. -/
def Tx (cur : Array Value) (ls : List (List UInt8)) : Prop := ∀ i s, ls[i]? = some s → cur[i * 3]? = some (.bool false) ∧ cur[i * 3 + 1]? = some (.string ⟨s.toArray⟩) ∧ ∃ a cap, cur[i * 3 + 2]? = some (.slice a 0 cap) ∧ cap ≤ maxLen

theorem nil_is (w : World) (a : Option Addr) (n c : Nat) : (binOp .eql 28 (.slice a n c) (.slice none 0 0)).run Tryd.prog w = .ok (.bool a.isNone) w :=
  Lib.run_eql_slice_nil w 28 30 a n c 0 0 Tryd.underlying28

set_option maxRecDepth 100000 in
set_option maxHeartbeats 4000000 in
theorem clone_none (a : Option Addr) (cap : Nat) (w : World) : Calls Tryd.prog 64 #[.slice a 0 cap] w fun e w' => (∃ a' cap', e = .returned (.slice a' 0 cap') ∧ cap' ≤ maxLen) ∧ Below w.heap.size w w' := by
  cases a with
  | none =>
    have HE := fun W => nil_is W none 0 cap
    simp only [Option.isNone] at HE
    go_enter Tryd.func64, Tryd.ntmps64
    go_wp2_with fail
    go_ret
    exact ⟨⟨_, _, rfl, by decide⟩, Below.refl _ _⟩
  | some b =>
    have HE := fun W => nil_is W (some b) 0 cap
    simp only [Option.isNone] at HE
    go_enter Tryd.func64, Tryd.ntmps64
    go_wp2_with fail
    go_ret
    exact ⟨⟨_, _, rfl, by decide⟩, (Below.refl _ w).alloc (Nat.le_refl _) _⟩

theorem lay_cells {W : World} {n b o m cap : Nat} {ls : List (List UInt8)} (h : Lay W n (ls.map M.textI) (.slice (some ⟨b, o, none⟩) m cap)) {i : Nat} {s : List UInt8} (hi : ls[i]? = some s) :
    b < n ∧ W.cell? ⟨b, o + i * 3, none⟩ = some (.bool false) ∧ W.cell? ⟨b, o + i * 3 + 1, none⟩ = some (.string ⟨s.toArray⟩) ∧ ∃ a c, W.cell? ⟨b, o + i * 3 + 2, none⟩ = some (.slice a 0 c) ∧ c ≤ maxLen := by
  have hk : i < (ls.map M.textI).length := by rw [List.length_map]; exact (List.getElem?_eq_some_iff.1 hi).1
  obtain ⟨b', o', cap', l, d, ys, u, hv, hb, hx, c0, c1, c2, hu⟩ := h.at_ hk
  cases hv
  rw [List.getElem?_map, hi] at hx
  simp only [Option.map_some, Option.some.injEq, M.textI, M.It.mk.injEq] at hx
  obtain ⟨rfl, rfl, rfl⟩ := hx
  obtain ⟨a, c, rfl, _, hm⟩ := hu.slice
  exact ⟨hb, c0, c1, a, c, c2, hm⟩

theorem three {P : Nat → Prop} {n : Nat} (h : ∀ i, i < n → P (i * 3) ∧ P (i * 3 + 1) ∧ P (i * 3 + 2)) : ∀ j, j < n * 3 → P j := by
  intro j hj
  obtain ⟨h0, h1, h2⟩ := h (j / 3) (by omega)
  have : j % 3 = 0 ∨ j % 3 = 1 ∨ j % 3 = 2 := by omega
  rcases this with e | e | e
  · rw [show j = j / 3 * 3 by omega]; exact h0
  · rw [show j = j / 3 * 3 + 1 by omega]; exact h1
  · rw [show j = j / 3 * 3 + 2 by omega]; exact h2

/-- Cells one behind the other. -/
def seg (w : World) (b o m : Nat) : List Value := (List.range m).map fun j => (w.cell? ⟨b, o + j, none⟩).getD undef
theorem seg_length (w : World) (b o m : Nat) : (seg w b o m).length = m := by simp [seg]
theorem seg_at {w : World} {b o m j : Nat} (hj : j < m) {v : Value} (h : w.cell? ⟨b, o + j, none⟩ = some v) : (seg w b o m)[j]? = some v := by simp [seg, hj, h]
theorem seg_all {w : World} {b o m : Nat} (h : ∀ j, j < m → ∃ v, w.cell? ⟨b, o + j, none⟩ = some v) (j : Nat) (v : Value) (hv : (seg w b o m)[j]? = some v) : w.cell? ((⟨b, o, none⟩ : Addr).add j) = some v := by
  have hj : j < m := by
    have := (List.getElem?_eq_some_iff.1 hv).1
    rwa [seg_length] at this
  obtain ⟨u, hu⟩ := h j hj
  rw [seg_at hj hu] at hv
  cases hv
  rw [addr_add]
  exact hu

set_option maxRecDepth 100000 in
set_option maxHeartbeats 4000000 in
theorem clone_texts (ls : List (List UInt8)) (hne : 0 < ls.length) (hl : ls.length ≤ 600) (a : Option Addr) (cap : Nat) (w : World) (hL : Lay w w.heap.size (ls.map M.textI) (.slice a ls.length cap)) :
    Calls Tryd.prog 64 #[.slice a ls.length cap] w fun e w' => (∃ g cap' cur, e = .returned (.slice (some ⟨g, 0, none⟩) ls.length cap') ∧ w.heap.size ≤ g ∧ w'.heap[g]? = some (.cells cur 30 (0, 0)) ∧ Tx cur ls ∧ ls.length ≤ cap' ∧ cap' ≤ maxLen) ∧ Below w.heap.size w w' := by
  obtain ⟨b, o, rfl⟩ : ∃ b o, a = some ⟨b, o, none⟩ := by
    obtain ⟨b', o', cap', l, d, ys, u, hv, _⟩ := hL.at_ (k := 0) (by rw [List.length_map]; exact hne)
    injection hv with h1
    exact ⟨_, _, h1⟩
  have HE := fun W => nil_is W (some ⟨b, o, none⟩) ls.length cap
  simp only [Option.isNone] at HE
  obtain ⟨i, hi, hz0, hz1, hz2⟩ := info_parts Tryd.ofItem
  have hb1 : Below w.heap.size w (w.alloc (.cells #[] 30)) := by (repeat (first | exact Below.refl _ _ | refine Below.drew ?_ | refine Below.alloc ?_ (by first | omega | (simp; omega) | simp) _ | refine Below.setCell ?_ (by first | omega | (simp; omega) | simp) _))
  have hL1 := hL.from_ hb1
  have hall : ∀ j, j < ls.length * 3 → ∃ v, (w.alloc (.cells #[] 30)).cell? ⟨b, o + j, none⟩ = some v := three fun k hk => by
    obtain ⟨_, c0, c1, _, _, c2, _⟩ := lay_cells hL1 (List.getElem?_eq_getElem hk)
    exact ⟨⟨_, c0⟩, ⟨_, c1⟩, ⟨_, c2⟩⟩
  have hnews := seg_all hall
  have HA := run_append_grow (P := Tryd.prog) (w.alloc (.cells #[] 30)) 28 28 30 i _ Tryd.underlying28 hi hz0 ⟨w.heap.size, 0, none⟩ 0 0 [] (by simp) (fun j v h => by simp at h) ⟨b, o, none⟩ ls.length cap (seg (w.alloc (.cells #[] 30)) b o (ls.length * 3)) (by rw [seg_length, hz1]) hnews (by omega) (by omega) (growslice_fits (by omega) (by rw [hz2]; omega))
  simp only [Nat.zero_add] at HA
  have hge := grownCap_ge (w.alloc (.cells #[] 30)) ls.length 0 30
  have hle := grownCap_le_maxLen (w.alloc (.cells #[] 30)) ls.length 0 30 (by simp only [maxLen]; omega)
  generalize grownCap (w.alloc (.cells #[] 30)) ls.length 0 30 = gc at *
  obtain ⟨cur, hcur⟩ : ∃ cur, ([].toArray ++ (seg (w.alloc (.cells #[] 30)) b o (ls.length * 3)).toArray ++ Builtin.zeroCells (Value.agg #[.bool false, .string ⟨#[]⟩, .slice none 0 0]).cells (gc - ls.length)) = cur := ⟨_, rfl⟩
  rw [hcur] at HA
  have hTx : Tx cur ls := fun k s hk => by
    have hk' := (List.getElem?_eq_some_iff.1 hk).1
    obtain ⟨_, c0, c1, a2, cp2, c2, hm⟩ := lay_cells hL1 hk
    have hat : ∀ j v, j < ls.length * 3 → (w.alloc (.cells #[] 30)).cell? ⟨b, o + j, none⟩ = some v → cur[j]? = some v := fun j v hj h => by
      have := seg_at hj h
      rw [← hcur, Array.getElem?_append_left (by simp [seg_length]; omega)]
      simpa using this
    exact ⟨hat _ _ (by omega) c0, hat _ _ (by omega) c1, a2, cp2, hat _ _ (by omega) c2, hm⟩
  clear hcur hnews hall hL1 hL hi hz0 hz1 hz2
  obtain ⟨w1, hw1⟩ : ∃ w1, ((w.alloc (.cells #[] 30)).drew.alloc (.cells cur 30)) = w1 := ⟨_, rfl⟩
  have hrow : w1.heap[w.heap.size + 1]? = some (.cells cur 30 (0, 0)) := by
    rw [← hw1]
    have := heap_alloc_new (w.alloc (.cells #[] 30)).drew (.cells cur 30)
    simpa using this
  have hb : Below w.heap.size w w1 := by rw [← hw1]; exact (hb1.drew).alloc (by simp) _
  rw [hw1] at HA
  rw [show (w.alloc (.cells #[] 30)).heap.size = w.heap.size + 1 by simp] at HA
  clear hw1 hb1
  go_enter Tryd.func64, Tryd.ntmps64
  have HA' := Lib.hid HA
  clear HA
  go_wp2_with (at_builtin; refine wpList_append_run rfl _ _ _ rfl _ _ _ rfl rfl HA'.out ?_)
  go_ret
  exact ⟨⟨_, _, _, rfl, by omega, hrow, hTx, hge, hle⟩, hb⟩
end Go.Proofs.YtebkmlbpngpmdaaDoor
namespace Go.Proofs.YtebkmlbpngpmdaaDoor
open Go Go.RowKit

set_option maxRecDepth 100000 in
set_option maxHeartbeats 4000000 in
theorem copied_none (a : Option Addr) (cap : Nat) (w : World) : Calls Tryd.prog 36 #[.slice a 0 cap] w fun e w' => (∃ a' cap', e = .returned (.slice a' 0 cap') ∧ cap' ≤ maxLen) ∧ Below w.heap.size w w' := by
  have HC := Lib.hid (fun W => clone_none a cap W)
  go_enter Tryd.func36, Tryd.ntmps36
  go_wp2_with fail
  refine (HC.out _).mono ?_
  rintro e w1 ⟨⟨a', cap', rfl, hm⟩, hb1⟩
  go_wp2_with fail
  go_loopw [10] (fun i wr => i = .int .i64 0 ∧ wr = w1) (fun _ _ => 0)
  case atStart => exact ⟨rfl, rfl⟩
  case round =>
    obtain ⟨rfl, rfl⟩ := hrel
    go_wp2_with fail
    go_ret
    exact ⟨⟨_, _, rfl, hm⟩, hb1⟩

theorem Tx.set1 {cur : Array Value} {ls : List (List UInt8)} {k : Nat} {s : List UInt8} (h : Tx cur ls) (hk : ls[k]? = some s) : Tx (cur.setIfInBounds (k * 3 + 1) (.string ⟨s.toArray⟩)) ls := fun i t hi => by
  obtain ⟨c0, c1, a, cap, c2, hm⟩ := h i t hi
  refine ⟨by rw [Array.getElem?_setIfInBounds_ne (by omega)]; exact c0, ?_, a, cap, by rw [Array.getElem?_setIfInBounds_ne (by omega)]; exact c2, hm⟩
  by_cases e : i = k
  · subst e
    rw [hk] at hi
    cases hi
    have := (Array.getElem?_eq_some_iff.1 c1).1
    rw [Array.getElem?_setIfInBounds_self_of_lt this]
  · rw [Array.getElem?_setIfInBounds_ne (by omega)]
    exact c1
theorem Tx.set2 {cur : Array Value} {ls : List (List UInt8)} {k : Nat} (h : Tx cur ls) (a : Option Addr) (cap : Nat) (hm : cap ≤ maxLen) : Tx (cur.setIfInBounds (k * 3 + 2) (.slice a 0 cap)) ls := fun i t hi => by
  obtain ⟨c0, c1, a', cap', c2, hm'⟩ := h i t hi
  refine ⟨by rw [Array.getElem?_setIfInBounds_ne (by omega)]; exact c0, by rw [Array.getElem?_setIfInBounds_ne (by omega)]; exact c1, ?_⟩
  by_cases e : i = k
  · subst e
    have := (Array.getElem?_eq_some_iff.1 c2).1
    exact ⟨a, cap, by rw [Array.getElem?_setIfInBounds_self_of_lt this], hm⟩
  · exact ⟨a', cap', by rw [Array.getElem?_setIfInBounds_ne (by omega)]; exact c2, hm'⟩
theorem Tx.lay {W : World} {S : Nat → Prop} {g cap : Nat} {cur : Array Value} {ls : List (List UInt8)} (h : Tx cur ls) (hrow : W.heap[g]? = some (.cells cur 30 (0, 0))) (hg : S g) (hc : ls.length ≤ cap) (hm : cap ≤ maxLen) : LayS W S (ls.map M.textI) (.slice (some ⟨g, 0, none⟩) ls.length cap) := by
  have hat : ∀ j v, cur[j]? = some v → W.cell? ⟨g, 0 + j, none⟩ = some v := fun j v hv => by simp [World.cell?, hrow, hv]
  have hx : ∀ i l d ys, (ls.map M.textI)[i]? = some (M.It.mk l d ys) → ∃ s, ls[i]? = some s ∧ l = false ∧ d = s ∧ ys = [] := fun i l d ys e => by
    rw [List.getElem?_map] at e
    cases hs : ls[i]? with
    | none => rw [hs] at e; cases e
    | some s =>
      rw [hs] at e
      simp only [Option.map_some, Option.some.injEq, M.textI, M.It.mk.injEq] at e
      exact ⟨s, hs, e.1.symm, e.2.1.symm, e.2.2.symm⟩
  have key := LayS.row (w := W) (S := S) (xs := ls.map M.textI) (b := g) (o := 0) (cap := cap) (fun i => (cur[i * 3 + 2]?).getD undef) hg (by rw [List.length_map]; exact hc) hm
    (fun i l d ys e => by
      obtain ⟨s, hs, rfl, rfl, rfl⟩ := hx i l d ys e
      exact hat _ _ (h i _ hs).1)
    (fun i l d ys e => by
      obtain ⟨s, hs, rfl, rfl, rfl⟩ := hx i l d ys e
      have := hat _ _ (h i _ hs).2.1
      rwa [← Nat.add_assoc] at this)
    (fun i l d ys e => by
      obtain ⟨s, hs, rfl, rfl, rfl⟩ := hx i l d ys e
      obtain ⟨a, c, c2, _⟩ := (h i _ hs).2.2
      have := hat _ _ c2
      rw [← Nat.add_assoc] at this
      rw [this, c2, Option.getD_some])
    (fun i l d ys e => by
      obtain ⟨s, hs, rfl, rfl, rfl⟩ := hx i l d ys e
      obtain ⟨a, c, c2, hm⟩ := (h i _ hs).2.2
      rw [c2, Option.getD_some]
      exact .nil_ hm)
  rwa [List.length_map] at key

set_option maxRecDepth 100000 in
set_option maxHeartbeats 4000000 in
theorem copied_texts (ls : List (List UInt8)) (hl : ls.length ≤ 600) (hs : ∀ s ∈ ls, s.length ≤ longS) (a : Option Addr) (cap : Nat) (w : World) (hL : Lay w w.heap.size (ls.map M.textI) (.slice a ls.length cap)) :
    Calls Tryd.prog 36 #[.slice a ls.length cap] w fun e w' => (∃ a' cap', e = .returned (.slice a' ls.length cap') ∧ Fresh w.heap.size w' (ls.map M.textI) (.slice a' ls.length cap')) ∧ Below w.heap.size w w' := by
  by_cases hne : ls.length = 0
  · obtain rfl := List.eq_nil_of_length_eq_zero hne
    refine (copied_none a cap w).mono ?_
    rintro e w1 ⟨⟨a', cap', rfl, hm⟩, hb1⟩
    exact ⟨⟨a', cap', rfl, .nil_ hm⟩, hb1⟩
  · have HC := Lib.hid (clone_texts ls (by omega) hl a cap w hL)
    have HS := Lib.hid hs
    clear hL hs
    go_enter Tryd.func36, Tryd.ntmps36
    go_wp2_with fail
    refine HC.out.mono ?_
    rintro e w1 ⟨⟨g, cap', cur0, rfl, hg0, hrow0, hT0, hc0, hm0⟩, hb1⟩
    have hsz1 : g < w1.heap.size := (Array.getElem?_eq_some_iff.1 hrow0).1
    go_wp2_with fail
    go_loopw [10] (fun i wr => ∃ (k : Nat) (cur : Array Value), k ≤ ls.length ∧ i = .int .i64 k ∧ wr.heap[g]? = some (.cells cur 30 (0, 0)) ∧ Tx cur ls ∧ Below w.heap.size w wr) (fun i _ => ls.length - (intOf i).toNat)
    case atStart => exact ⟨0, cur0, by omega, rfl, hrow0, hT0, hb1⟩
    case round =>
      obtain ⟨k, cur, hk, rfl, hrow, hT, hb⟩ := hrel
      have hsz : g < wr.heap.size := (Array.getElem?_eq_some_iff.1 hrow).1
      by_cases hlt : k < ls.length
      · have hk2 : k < 600 := by omega
        obtain ⟨s, hks⟩ : ∃ s, ls[k]? = some s := ⟨_, List.getElem?_eq_getElem hlt⟩
        obtain ⟨q0, q1, a2, cp2, q2, hm2⟩ := hT k s hks
        have c0 : wr.cell? ⟨g, k * 3, none⟩ = some (.bool false) := by simp [World.cell?, hrow, q0]
        have c1 : wr.cell? ⟨g, k * 3 + 1, none⟩ = some (.string ⟨s.toArray⟩) := by simp [World.cell?, hrow, q1]
        have c2 : wr.cell? ⟨g, k * 3 + 2, none⟩ = some (.slice a2 0 cp2) := by simp [World.cell?, hrow, q2]
        have HT := Lib.hid (fun W => clone_any s W (Nat.le_trans (HS.out s (List.mem_of_getElem? hks)) (by decide)))
        have hne1 : ¬ g = wr.heap.size := by omega
        have hne2 : ¬ wr.heap.size = g := by omega
        have HCN := Lib.hid (fun W => copied_none a2 cp2 W)
        go_wp2_with fail
        refine (HT.out _).mono ?_
        rintro e w2 ⟨rfl, hb2⟩
        have hsz2 : wr.heap.size + 1 ≤ w2.heap.size := by simpa using hb2.size
        have hrow2 : w2.heap[g]? = some (.cells cur 30 (0, 0)) := (hb2.block g (by simp; omega)).trans ((Below.heap_alloc wr _ g hsz).trans hrow)
        have hbox2 : w2.heap[wr.heap.size]? = some (.cells #[.bool false, .string ⟨s.toArray⟩, .slice a2 0 cp2] 30 (0, 0)) := (hb2.block _ (by simp)).trans (heap_alloc_new wr _)
        have d1 : w2.cell? ⟨g, k * 3 + 1, none⟩ = some (.string ⟨s.toArray⟩) := by simp [World.cell?, hrow2, q1]
        have f1 : w2.frozen? ⟨g, k * 3 + 1, none⟩ = false := by simp [World.frozen?, hrow2]
        have e2 : w2.cell? ⟨wr.heap.size, 2, none⟩ = some (.slice a2 0 cp2) := by simp [World.cell?, hbox2]
        obtain ⟨w3, hw3⟩ : ∃ w3, w2.setCell ⟨g, k * 3 + 1, none⟩ (.string ⟨s.toArray⟩) = w3 := ⟨_, rfl⟩
        have hrow3 : w3.heap[g]? = some (.cells (cur.setIfInBounds (k * 3 + 1) (.string ⟨s.toArray⟩)) 30 (0, 0)) := by
          rw [← hw3, setCell_eq_setRow w2 g (k * 3 + 1) cur _ (0, 0) _ hrow2]
          exact setRow_heap w2 g cur _ _ (0, 0) hrow2
        have hb3 : Below w.heap.size w w3 := by
          rw [← hw3]
          exact Below.setCell ((hb.alloc hb.size _).trans (hb2.mono (by simp; have := hb.size; omega))) hg0 _
        have HW3 := Lib.hid hw3
        clear hw3 hb2
        go_wp2_with fail
        rw [HW3.out]
        refine (HCN.out _).mono ?_
        rintro e w4 ⟨⟨a3, cp3, rfl, hm3⟩, hb4⟩
        have hz3 : w3.heap.size = w2.heap.size := by rw [← HW3.out]; simp [World.setCell]
        have hrow4 := (hb4.block g (by omega)).trans hrow3
        have q4 : (cur.setIfInBounds (k * 3 + 1) (.string ⟨s.toArray⟩))[k * 3 + 2]? = some (.slice a2 0 cp2) := by rw [Array.getElem?_setIfInBounds_ne (by omega)]; exact q2
        have d4 : w4.cell? ⟨g, k * 3 + 2, none⟩ = some (.slice a2 0 cp2) := by simp only [World.cell?, hrow4]; exact q4
        have f4 : w4.frozen? ⟨g, k * 3 + 2, none⟩ = false := by simp [World.frozen?, hrow4]
        have hrow5 := setRow_heap w4 g _ ((cur.setIfInBounds (k * 3 + 1) (.string ⟨s.toArray⟩)).setIfInBounds (k * 3 + 2) (.slice a3 0 cp3)) _ (0, 0) hrow4
        rw [← setCell_eq_setRow w4 g (k * 3 + 2) _ _ (0, 0) _ hrow4] at hrow5
        have hb5 : Below w.heap.size w (w4.setCell ⟨g, k * 3 + 2, none⟩ (.slice a3 0 cp3)) := Below.setCell (hb3.trans (hb4.mono hb3.size)) hg0 _
        have hT5 := (hT.set1 hks).set2 (k := k) a3 cp3 hm3
        clear hb4 hb3 hrow4 hrow3 hrow2 hbox2 HW3 HCN HT
        go_wp2_with fail
        go_roundw
        case rel => exact ⟨k + 1, _, by omega, by simp, hrow5, hT5, hb5⟩
        case measure => simp [intOf]; omega
      · obtain rfl : k = ls.length := by omega
        go_wp2_with fail
        go_ret
        exact ⟨⟨_, _, rfl, hT.lay hrow ⟨hg0, hsz⟩ hc0 hm0⟩, hb⟩

set_option maxRecDepth 100000 in
set_option maxHeartbeats 4000000 in
theorem field_list : FListOk := by
  intro ls a cap w hL hl hs
  obtain ⟨w0, hw0⟩ : ∃ w0, w.alloc (.cells #[.bool false, .string ⟨#[]⟩, .slice none 0 0] 30) = w0 := ⟨_, rfl⟩
  have hb0 : Below w.heap.size w w0 := by rw [← hw0]; (repeat (first | exact Below.refl _ _ | refine Below.drew ?_ | refine Below.alloc ?_ (by first | omega | (simp; omega) | simp) _ | refine Below.setCell ?_ (by first | omega | (simp; omega) | simp) _))
  have hz0 : w0.heap.size = w.heap.size + 1 := by rw [← hw0]; simp
  have hrow0 : w0.heap[w.heap.size]? = some (.cells #[.bool false, .string ⟨#[]⟩, .slice none 0 0] 30 (0, 0)) := by rw [← hw0]; exact heap_alloc_new w _
  have HC := Lib.hid (copied_texts ls hl hs a cap w0 ((hL.from_ hb0).mono (by omega)))
  have HW := Lib.hid hw0
  clear hw0 hL hs
  go_enter Tryd.func18, Tryd.ntmps18
  go_wp2_with fail
  rw [HW.out]
  refine HC.out.mono ?_
  rintro e w1 ⟨⟨a', cap', rfl, hL1⟩, hb1⟩
  have hb : Below w.heap.size w w1 := hb0.trans (hb1.mono (by omega))
  have hrow : w1.heap[w.heap.size]? = _ := (hb1.block _ (by omega)).trans hrow0
  clear hb1 hb0 hrow0 HW
  obtain ⟨⟨_, z0⟩, ⟨_, z1⟩, ⟨_, z2⟩, y0, y1, y2⟩ := cells_three hrow
  go_wp2_with fail
  refine rf_post rfl w w1 _ true [] (.slice a' ls.length cap') w.heap.size (Nat.le_refl _) hb _ _ _ hrow _ rfl (fun Z hZ hz ho => ⟨⟨a', cap', rfl, ?_⟩, hZ⟩)
  exact (LayS.keep hL1 (T := fun b => b < Z.heap.size) (W := Z) fun b ⟨h1, h2⟩ => ⟨by omega, ho b (by omega)⟩).lay fun b h => h

set_option maxRecDepth 100000 in
set_option maxHeartbeats 4000000 in
theorem each_item (ls : List (List UInt8)) (hl : ls.length ≤ 600) (hs : ∀ s ∈ ls, s.length ≤ longS) (a : Option Addr) (cap : Nat) (w : World) (hL : Lay w w.heap.size (ls.map M.textI) (.slice a ls.length cap)) :
    Calls Tryd.prog 58 #[.slice a ls.length cap] w fun e w' => (∃ a' cap', e = .returned (.tuple #[.slice a' ls.length cap', .int .i64 0])) ∧ Below w.heap.size w w' := by
  have HC := Lib.hid (copied_texts ls hl hs a cap w hL)
  clear hL hs
  go_enter Tryd.func58, Tryd.ntmps58
  go_wp2_with fail
  refine HC.out.mono ?_
  rintro e w1 ⟨⟨a', cap', rfl, hL1⟩, hb1⟩
  go_wp2_with fail
  go_ret2
  exact ⟨⟨_, _, rfl⟩, hb1⟩

set_option maxRecDepth 100000 in
set_option maxHeartbeats 4000000 in
theorem get_list : GListOk := by
  intro ls a cap w hL hl hs
  have E1 : ∀ args w, (callFunc 58 args).run Tryd.prog w = .ok (.enter 58 args) w := enters_of Tryd.func58 (by kernel_rfl) rfl
  have HL : Hid (∀ W, Below w.heap.size w W → Calls Tryd.prog 57 #[iv true [] (.slice a ls.length cap), .int .i64 ls.length, .int .i64 ls.length, .func (.func 58) #[] #[]] W fun e w' => (∃ a' cap', e = .returned (.tuple #[.slice a' ls.length cap', .int .i64 0])) ∧ Below W.heap.size W w') := by
    refine Lib.hid fun W hW => ?_
    have hb0 : Below W.heap.size W (W.alloc (.cells #[.bool true, .string ⟨#[]⟩, .slice a ls.length cap] 30)) := by (repeat (first | exact Below.refl _ _ | refine Below.drew ?_ | refine Below.alloc ?_ (by first | omega | (simp; omega) | simp) _ | refine Below.setCell ?_ (by first | omega | (simp; omega) | simp) _))
    have HN := Lib.hid (fun V => count_any ls.length ls.length ls.length V)
    rw [show M.within ls.length ls.length ls.length = 0 by simp [M.within]] at HN
    have HE := Lib.hid (fun V (h : Below W.heap.size W V) => each_item ls hl hs a cap V (((hL.from_ hW).from_ (h.mono hW.size)).mono (Nat.le_trans hW.size h.size)))
    clear hL hs hW
    go_enter Tryd.func57, Tryd.ntmps57
    go_wp2_with fail
    refine (HN.out _).mono ?_
    rintro e w1 ⟨rfl, hb1⟩
    obtain ⟨hce, hfr⟩ := bcell hb1
    go_wp2_with fail
    refine (HE.out _ (hb0.trans (hb1.mono (by simp)))).mono ?_
    rintro e w2 ⟨⟨a', cap', rfl⟩, hb2⟩
    go_wp2_with fail
    go_ret2
    exact ⟨⟨_, _, rfl⟩, hb0.trans ((hb1.trans (hb2.mono hb1.size)).mono (by simp))⟩
  have hb0 : Below w.heap.size w (w.alloc (.cells #[.bool true, .string ⟨#[]⟩, .slice a ls.length cap] 30)) := by (repeat (first | exact Below.refl _ _ | refine Below.drew ?_ | refine Below.alloc ?_ (by first | omega | (simp; omega) | simp) _ | refine Below.setCell ?_ (by first | omega | (simp; omega) | simp) _))
  clear hL hs E1
  go_enter Tryd.func30, Tryd.ntmps30
  go_wp2_with fail
  refine (HL.out _ hb0).mono ?_
  rintro e w1 ⟨⟨a', cap', rfl⟩, hb1⟩
  go_wp2_with fail
  go_ret2
  exact ⟨⟨_, _, rfl⟩, hb0.trans (hb1.mono (by simp))⟩
end Go.Proofs.YtebkmlbpngpmdaaDoor
namespace Go.Proofs.YtebkmlbpngpmdaaDoor
open Go Go.RowKit

set_option maxRecDepth 100000 in
set_option maxHeartbeats 4000000 in
theorem field_text : FTextOk := by
  intro s w hs
  have HB := Lib.hid (fun W => clone_any s W (Nat.le_trans hs (by decide)))
  obtain ⟨w0, hw0⟩ : ∃ w0, w.alloc (.cells #[.bool false, .string ⟨#[]⟩, .slice none 0 0] 30) = w0 := ⟨_, rfl⟩
  have hb0 : Below w.heap.size w w0 := by rw [← hw0]; (repeat (first | exact Below.refl _ _ | refine Below.drew ?_ | refine Below.alloc ?_ (by first | omega | (simp; omega) | simp) _ | refine Below.setCell ?_ (by first | omega | (simp; omega) | simp) _))
  have hz0 : w0.heap.size = w.heap.size + 1 := by rw [← hw0]; simp
  have hrow0 : w0.heap[w.heap.size]? = some (.cells #[.bool false, .string ⟨#[]⟩, .slice none 0 0] 30 (0, 0)) := by rw [← hw0]; exact heap_alloc_new w _
  have HW := Lib.hid hw0
  clear hw0
  go_enter Tryd.func12, Tryd.ntmps12
  go_wp2_with fail
  rw [HW.out]
  refine (HB.out _).mono ?_
  rintro e w1 ⟨rfl, hb1⟩
  have hb : Below w.heap.size w w1 := hb0.trans (hb1.mono (by omega))
  have hrow : w1.heap[w.heap.size]? = _ := (hb1.block _ (by omega)).trans hrow0
  clear hb1 hb0 hrow0 HW hz0
  obtain ⟨⟨_, z0⟩, ⟨_, z1⟩, ⟨_, z2⟩, y0, y1, y2⟩ := cells_three hrow
  go_wp2_with fail
  refine rf_post rfl w w1 _ false _ _ w.heap.size (Nat.le_refl _) hb _ _ _ hrow _ ?_ (fun Z hZ _ _ => ⟨rfl, hZ⟩)
  rfl

set_option maxRecDepth 100000 in
set_option maxHeartbeats 4000000 in
theorem field_number : FNumberOk := by
  intro n w hn
  have HB := Lib.hid (fun W => nbe_any n W hn)
  rw [show M.tr (M.f32 n) = M.ben n from rfl] at HB
  have hlen : (M.ben n).length ≤ longS := by
    have := M.tr_length_le (M.f32 n)
    rw [M.f32_length] at this
    exact Nat.le_trans this (by decide)
  have HT := Lib.hid (fun W => field_text (M.ben n) W hlen)
  obtain ⟨w0, hw0⟩ : ∃ w0, w.alloc (.cells #[.bool false, .string ⟨#[]⟩, .slice none 0 0] 30) = w0 := ⟨_, rfl⟩
  have hb0 : Below w.heap.size w w0 := by rw [← hw0]; (repeat (first | exact Below.refl _ _ | refine Below.drew ?_ | refine Below.alloc ?_ (by first | omega | (simp; omega) | simp) _ | refine Below.setCell ?_ (by first | omega | (simp; omega) | simp) _))
  have hz0 : w0.heap.size = w.heap.size + 1 := by rw [← hw0]; simp
  have hrow0 : w0.heap[w.heap.size]? = some (.cells #[.bool false, .string ⟨#[]⟩, .slice none 0 0] 30 (0, 0)) := by rw [← hw0]; exact heap_alloc_new w _
  have HW := Lib.hid hw0
  clear hw0
  go_enter Tryd.func8, Tryd.ntmps8
  go_wp2_with fail
  rw [HW.out]
  refine (HB.out _).mono ?_
  rintro e w1 ⟨rfl, hb1⟩
  go_wp2_with fail
  refine (HT.out _).mono ?_
  rintro e w2 ⟨rfl, hb2⟩
  have hb1 := hb1.trans (hb2.mono hb1.size)
  have hb : Below w.heap.size w w2 := hb0.trans (hb1.mono (by omega))
  have hrow : w2.heap[w.heap.size]? = _ := (hb1.block _ (by omega)).trans hrow0
  clear hb1 hb0 hrow0 HW hz0
  obtain ⟨⟨_, z0⟩, ⟨_, z1⟩, ⟨_, z2⟩, y0, y1, y2⟩ := cells_three hrow
  go_wp2_with fail
  refine rf_post rfl w w2 _ false _ _ w.heap.size (Nat.le_refl _) hb _ _ _ hrow _ ?_ (fun Z hZ _ _ => ⟨rfl, hZ⟩)
  rfl

set_option maxRecDepth 100000 in
set_option maxHeartbeats 4000000 in
theorem field_word : FWordOk := by
  intro N w hN
  have HB := Lib.hid (fun W => bytes_any N W hN)
  have hlen : (M.tr (M.f32 N)).length ≤ longS := by
    have := M.tr_length_le (M.f32 N)
    rw [M.f32_length] at this
    exact Nat.le_trans this (by decide)
  have HT := Lib.hid (fun W => field_text (M.tr (M.f32 N)) W hlen)
  obtain ⟨wx, hwx⟩ : ∃ wx, w.alloc (.cells #[.int .u64 (M.pt 0 N), .int .u64 (M.pt 1 N), .int .u64 (M.pt 2 N), .int .u64 (M.pt 3 N)] 24) = wx := ⟨_, rfl⟩
  have hbx : Below w.heap.size w wx := by rw [← hwx]; (repeat (first | exact Below.refl _ _ | refine Below.drew ?_ | refine Below.alloc ?_ (by first | omega | (simp; omega) | simp) _ | refine Below.setCell ?_ (by first | omega | (simp; omega) | simp) _))
  have hzx : wx.heap.size = w.heap.size + 1 := by rw [← hwx]; simp
  have a0 : wx.cell? ⟨w.heap.size, 0, none⟩ = some (.int .u64 (M.pt 0 N)) := by rw [← hwx]; simp [go_sem]
  have a1 : wx.cell? ⟨w.heap.size, 1, none⟩ = some (.int .u64 (M.pt 1 N)) := by rw [← hwx]; simp [go_sem]
  have a2 : wx.cell? ⟨w.heap.size, 2, none⟩ = some (.int .u64 (M.pt 2 N)) := by rw [← hwx]; simp [go_sem]
  have a3 : wx.cell? ⟨w.heap.size, 3, none⟩ = some (.int .u64 (M.pt 3 N)) := by rw [← hwx]; simp [go_sem]
  obtain ⟨w0, hw0⟩ : ∃ w0, wx.alloc (.cells #[.bool false, .string ⟨#[]⟩, .slice none 0 0] 30) = w0 := ⟨_, rfl⟩
  have hb0 : Below wx.heap.size wx w0 := by rw [← hw0]; (repeat (first | exact Below.refl _ _ | refine Below.drew ?_ | refine Below.alloc ?_ (by first | omega | (simp; omega) | simp) _ | refine Below.setCell ?_ (by first | omega | (simp; omega) | simp) _))
  have hz0 : w0.heap.size = wx.heap.size + 1 := by rw [← hw0]; simp
  have hrow0 : w0.heap[wx.heap.size]? = some (.cells #[.bool false, .string ⟨#[]⟩, .slice none 0 0] 30 (0, 0)) := by rw [← hw0]; exact heap_alloc_new wx _
  have c0 := (hb0.cell (p := ⟨w.heap.size, 0, none⟩) (by simp; omega)).trans a0
  have c1 := (hb0.cell (p := ⟨w.heap.size, 1, none⟩) (by simp; omega)).trans a1
  have c2 := (hb0.cell (p := ⟨w.heap.size, 2, none⟩) (by simp; omega)).trans a2
  have c3 := (hb0.cell (p := ⟨w.heap.size, 3, none⟩) (by simp; omega)).trans a3
  have HX := Lib.hid hwx
  have HW := Lib.hid hw0
  clear hw0 hwx
  go_enter Tryd.func10, Tryd.ntmps10
  go_wp2_with fail
  rw [HX.out, HW.out]
  refine (HB.out _).mono ?_
  rintro e w1 ⟨rfl, hb1⟩
  go_wp2_with fail
  refine (HT.out _).mono ?_
  rintro e w2 ⟨rfl, hb2⟩
  replace hb1 := hb1.trans (hb2.mono hb1.size)
  have hb : Below w.heap.size w w2 := hbx.trans ((hb0.trans (hb1.mono (by omega))).mono (by omega))
  have hrow : w2.heap[wx.heap.size]? = _ := (hb1.block _ (by omega)).trans hrow0
  rw [hzx] at hrow
  clear hb2 hb1 hb0 hrow0 HW HX hz0 hzx hbx c0 c1 c2 c3 a0 a1 a2 a3
  obtain ⟨⟨_, z0⟩, ⟨_, z1⟩, ⟨_, z2⟩, y0, y1, y2⟩ := cells_three hrow
  go_wp2_with fail
  refine rf_post rfl w w2 _ false _ _ (w.heap.size + 1) (by omega) hb _ _ _ hrow _ ?_ (fun Z hZ _ _ => ⟨rfl, hZ⟩)
  rfl

set_option maxRecDepth 100000 in
set_option maxHeartbeats 4000000 in
theorem field_bool : FBoolOk := by
  intro v w
  have H0 := Lib.hid (fun W => field_text [] W (by decide))
  have H1 := Lib.hid (fun W => field_text [1] W (by decide))
  obtain ⟨w0, hw0⟩ : ∃ w0, w.alloc (.cells #[.bool false, .string ⟨#[]⟩, .slice none 0 0] 30) = w0 := ⟨_, rfl⟩
  have hb0 : Below w.heap.size w w0 := by rw [← hw0]; (repeat (first | exact Below.refl _ _ | refine Below.drew ?_ | refine Below.alloc ?_ (by first | omega | (simp; omega) | simp) _ | refine Below.setCell ?_ (by first | omega | (simp; omega) | simp) _))
  have hz0 : w0.heap.size = w.heap.size + 1 := by rw [← hw0]; simp
  have hrow0 : w0.heap[w.heap.size]? = some (.cells #[.bool false, .string ⟨#[]⟩, .slice none 0 0] 30 (0, 0)) := by rw [← hw0]; exact heap_alloc_new w _
  have HW := Lib.hid hw0
  clear hw0
  cases v with
  | false =>
    go_enter Tryd.func14, Tryd.ntmps14
    go_wp2_with fail
    rw [HW.out]
    refine (H0.out _).mono ?_
    rintro e w1 ⟨rfl, hb1⟩
    have hb : Below w.heap.size w w1 := hb0.trans (hb1.mono (by omega))
    have hrow : w1.heap[w.heap.size]? = _ := (hb1.block _ (by omega)).trans hrow0
    clear hb1 hb0 hrow0 HW hz0
    obtain ⟨⟨_, z0⟩, ⟨_, z1⟩, ⟨_, z2⟩, y0, y1, y2⟩ := cells_three hrow
    go_wp2_with fail
    refine rf_post rfl w w1 _ false _ _ w.heap.size (Nat.le_refl _) hb _ _ _ hrow _ ?_ (fun Z hZ _ _ => ⟨rfl, hZ⟩)
    rfl
  | true =>
    go_enter Tryd.func14, Tryd.ntmps14
    go_wp2_with fail
    rw [HW.out]
    refine (H1.out _).mono ?_
    rintro e w1 ⟨rfl, hb1⟩
    have hb : Below w.heap.size w w1 := hb0.trans (hb1.mono (by omega))
    have hrow : w1.heap[w.heap.size]? = _ := (hb1.block _ (by omega)).trans hrow0
    clear hb1 hb0 hrow0 HW hz0
    obtain ⟨⟨_, z0⟩, ⟨_, z1⟩, ⟨_, z2⟩, y0, y1, y2⟩ := cells_three hrow
    go_wp2_with fail
    refine rf_post rfl w w1 _ false _ _ w.heap.size (Nat.le_refl _) hb _ _ _ hrow _ ?_ (fun Z hZ _ _ => ⟨rfl, hZ⟩)
    rfl
end Go.Proofs.YtebkmlbpngpmdaaDoor
namespace Go.Proofs.YtebkmlbpngpmdaaDoor
open Go Go.RowKit

theorem Tx.nil (cur : Array Value) : Tx cur [] := fun i s h => by simp at h
/-- One item more, in the cells. -/
def put3 (cur : Array Value) (k : Nat) (s : List UInt8) : Array Value := ((cur.setIfInBounds (k * 3) (.bool false)).setIfInBounds (k * 3 + 1) (.string ⟨s.toArray⟩)).setIfInBounds (k * 3 + 2) (.slice none 0 0)
theorem put3_size (cur : Array Value) (k : Nat) (s : List UInt8) : (put3 cur k s).size = cur.size := by simp [put3]
theorem Tx.put {cur : Array Value} {ls : List (List UInt8)} {k : Nat} {s : List UInt8} (h : Tx cur (ls.take k)) (hk : k * 3 + 3 ≤ cur.size) (hs : ls[k]? = some s) : Tx (put3 cur k s) (ls.take (k + 1)) := by
  intro i t hi
  have hik : i < k + 1 := by
    have := (List.getElem?_eq_some_iff.1 hi).1
    rw [List.length_take] at this
    omega
  rw [List.getElem?_take, if_pos hik] at hi
  unfold put3
  by_cases e : i = k
  · subst e
    rw [hs] at hi
    cases hi
    refine ⟨?_, ?_, none, 0, ?_, by decide⟩
    · rw [Array.getElem?_setIfInBounds_ne (by omega), Array.getElem?_setIfInBounds_ne (by omega), Array.getElem?_setIfInBounds_self_of_lt (by omega)]
    · rw [Array.getElem?_setIfInBounds_ne (by omega), Array.getElem?_setIfInBounds_self_of_lt (by simp; omega)]
    · rw [Array.getElem?_setIfInBounds_self_of_lt (by simp; omega)]
  · have hne : ∀ j, j < 3 → ∀ (x y z : Value), (((cur.setIfInBounds (k * 3) x).setIfInBounds (k * 3 + 1) y).setIfInBounds (k * 3 + 2) z)[i * 3 + j]? = cur[i * 3 + j]? := fun j hj x y z => by
      rw [Array.getElem?_setIfInBounds_ne (by omega), Array.getElem?_setIfInBounds_ne (by omega), Array.getElem?_setIfInBounds_ne (by omega)]
    obtain ⟨c0, c1, a, cap, c2, hm⟩ := h i t (by rw [List.getElem?_take, if_pos (by omega)]; exact hi)
    exact ⟨(hne 0 (by omega) _ _ _).trans c0, (hne 1 (by omega) _ _ _).trans c1, a, cap, (hne 2 (by omega) _ _ _).trans c2, hm⟩
theorem set_three_at {w : World} {g a b c : Nat} {cur : Array Value} {t : TypeId} (h : w.heap[g]? = some (.cells cur t (0, 0))) (x y z : Value) :
    ((w.setCell ⟨g, a, none⟩ x).setCell ⟨g, b, none⟩ y).setCell ⟨g, c, none⟩ z = w.setRow g (((cur.setIfInBounds a x).setIfInBounds b y).setIfInBounds c z) := by
  have e1 := setCell_eq_setRow w g a cur t (0, 0) x h
  have h1 := setRow_heap w g cur (cur.setIfInBounds a x) t (0, 0) h
  have e2 := setCell_eq_setRow (w.setRow g (cur.setIfInBounds a x)) g b _ t (0, 0) y h1
  have h2 := setRow_heap _ g _ ((cur.setIfInBounds a x).setIfInBounds b y) t (0, 0) h1
  have e3 := setCell_eq_setRow _ g c _ t (0, 0) z h2
  rw [e1, e2, e3, setRow_setRow, setRow_setRow]

set_option maxRecDepth 100000 in
set_option maxHeartbeats 4000000 in
theorem field_texts : FTextsOk := by
  intro ls a cap w hL hl hs
  obtain ⟨i, hi, hz0, hz1, hz2⟩ := info_parts Tryd.ofItem
  have hmk : ∀ W : World, (Instr.makeSlice 28 (.int .i64 (ls.length : Int)) (.int .i64 (ls.length : Int))).run Tryd.prog W = .ok (.slice (some ⟨W.heap.size, 0, none⟩) ls.length ls.length) (W.alloc (.cells (madeCells (Value.agg #[.bool false, .string ⟨#[]⟩, .slice none 0 0]).cells (ls.length * 3)) 30)) := fun W => by
    have h := run_make (P := Tryd.prog) W 28 30 i _ Tryd.underlying28 hi hz0 .i64 .i64 (ls.length : Int) (ls.length : Int) (by omega) (by omega) (by rw [hz2]; omega) (by omega)
    simpa [hz1] using h
  obtain ⟨m, hm⟩ : ∃ m, m = madeCells (Value.agg #[.bool false, .string ⟨#[]⟩, .slice none 0 0]).cells (ls.length * 3) := ⟨_, rfl⟩
  have hms : m.size = ls.length * 3 := by rw [hm, size_madeCells]
  rw [← hm] at hmk
  clear hm
  obtain ⟨wx, hwx⟩ : ∃ wx, w.alloc (.cells #[.bool false, .string ⟨#[]⟩, .slice none 0 0] 30) = wx := ⟨_, rfl⟩
  have hbx : Below w.heap.size w wx := by rw [← hwx]; (repeat (first | exact Below.refl _ _ | refine Below.drew ?_ | refine Below.alloc ?_ (by first | omega | (simp; omega) | simp) _ | refine Below.setCell ?_ (by first | omega | (simp; omega) | simp) _))
  have hzx : wx.heap.size = w.heap.size + 1 := by rw [← hwx]; simp
  have hrowx : wx.heap[w.heap.size]? = some (.cells #[.bool false, .string ⟨#[]⟩, .slice none 0 0] 30 (0, 0)) := by rw [← hwx]; exact heap_alloc_new w _
  have HMK := Lib.hid (hmk wx)
  clear hmk
  obtain ⟨w0, hw0⟩ : ∃ w0, wx.alloc (.cells m 30) = w0 := ⟨_, rfl⟩
  have hb0 : Below wx.heap.size wx w0 := by rw [← hw0]; (repeat (first | exact Below.refl _ _ | refine Below.drew ?_ | refine Below.alloc ?_ (by first | omega | (simp; omega) | simp) _ | refine Below.setCell ?_ (by first | omega | (simp; omega) | simp) _))
  have hz0' : w0.heap.size = wx.heap.size + 1 := by rw [← hw0]; simp
  have hrow0 : w0.heap[wx.heap.size]? = some (.cells m 30 (0, 0)) := by rw [← hw0]; exact heap_alloc_new wx _
  have hmk := HMK.out
  rw [hw0, hzx, ← hwx] at hmk
  have HX := Lib.hid hwx
  have HS := Lib.hid hs
  have HL := Lib.hid hL
  clear hwx hw0 HMK hs hL hi hz0 hz1 hz2
  go_enter Tryd.func16, Tryd.ntmps16
  go_wp2_with fail
  have hmk := Lib.hid hmk
  have hg : wx.heap.size = w.heap.size + 1 := hzx
  go_loopw [11] (fun i wr => ∃ (k : Nat) (cur : Array Value), k ≤ ls.length ∧ i = .int .i64 k ∧ wr.heap[w.heap.size + 1]? = some (.cells cur 30 (0, 0)) ∧ cur.size = ls.length * 3 ∧ Tx cur (ls.take k) ∧ Below (w.heap.size + 1) w0 wr) (fun i _ => ls.length - (intOf i).toNat)
  case atStart => exact ⟨0, m, by omega, rfl, by rw [← hg]; exact hrow0, hms, by rw [List.take_zero]; exact Tx.nil m, Below.refl _ _⟩
  case round =>
    obtain ⟨k, cur, hk, rfl, hrow, hcs, hT, hb⟩ := hrel
    have hwr : Below w.heap.size w wr := hbx.trans ((hb0.trans (hb.mono (by omega))).mono (by omega))
    have hsz : w.heap.size + 1 < wr.heap.size := (Array.getElem?_eq_some_iff.1 hrow).1
    by_cases hlt : k < ls.length
    · have hk2 : k < 600 := by omega
      obtain ⟨b, o, s, rfl, hbn, hks, cs⟩ := (HL.out.from_ hwr).at_ hlt
      have HT := Lib.hid (fun W => field_text s W (HS.out s (List.mem_of_getElem? hks)))
      go_wp2_with fail
      refine (HT.out _).mono ?_
      rintro e w2 ⟨rfl, hb2⟩
      have hrow2 := (hb2.block _ hsz).trans hrow
      have hz : k * 3 + 3 ≤ cur.size := by omega
      have z0 : w2.cell? ⟨w.heap.size + 1, k * 3, none⟩ = some cur[k * 3] := by simp [World.cell?, hrow2, show k * 3 < cur.size by omega]
      have z1 : w2.cell? ⟨w.heap.size + 1, k * 3 + 1, none⟩ = some cur[k * 3 + 1] := by simp [World.cell?, hrow2, show k * 3 + 1 < cur.size by omega]
      have z2 : w2.cell? ⟨w.heap.size + 1, k * 3 + 2, none⟩ = some cur[k * 3 + 2] := by simp [World.cell?, hrow2, show k * 3 + 2 < cur.size by omega]
      have y0 : ∀ j, w2.frozen? ⟨w.heap.size + 1, j, none⟩ = false := fun j => by simp [World.frozen?, hrow2]
      have hrow3 := setRow_heap w2 (w.heap.size + 1) cur (put3 cur k s) _ (0, 0) hrow2
      have hb3 : Below (w.heap.size + 1) w0 (w2.setRow (w.heap.size + 1) (put3 cur k s)) := (hb.trans (hb2.mono (by omega))).trans ⟨rfl, rfl, rfl, by simp, fun j hj => setRow_other _ _ _ _ (by omega)⟩
      have hT3 := hT.put (s := s) (by omega) hks
      have hcs3 : (put3 cur k s).size = ls.length * 3 := by rw [put3_size]; exact hcs
      have hw3 := set_three_at hrow2 (a := k * 3) (b := k * 3 + 1) (c := k * 3 + 2) (.bool false) (.string ⟨s.toArray⟩) (.slice none 0 0)
      change _ = w2.setRow (w.heap.size + 1) (put3 cur k s) at hw3
      generalize w2.setRow (w.heap.size + 1) (put3 cur k s) = w3 at *
      generalize put3 cur k s = cur3 at *
      generalize cur[k * 3] = v0 at *
      generalize cur[k * 3 + 1] = v1 at *
      generalize cur[k * 3 + 2] = v2 at *
      have HW3 := Lib.hid hw3
      clear hw3 hrow2 hb2 hT hrow
      go_wp2_with fail
      rw [HW3.out]
      go_roundw
      case rel => exact ⟨k + 1, cur3, by omega, by simp, hrow3, hcs3, hT3, hb3⟩
      case measure => simp [intOf]; omega
    · obtain rfl : k = ls.length := by omega
      rw [List.take_length] at hT
      have hrowr := (hb.block w.heap.size (by omega)).trans ((hb0.block w.heap.size (by omega)).trans hrowx)
      obtain ⟨⟨_, z0⟩, ⟨_, z1⟩, ⟨_, z2⟩, y0, y1, y2⟩ := cells_three hrowr
      go_wp2_with fail
      refine rf_post rfl w wr _ true [] (.slice (some ⟨w.heap.size + 1, 0, none⟩) ls.length ls.length) w.heap.size (Nat.le_refl _) hwr _ _ _ hrowr _ rfl (fun Z hZ hz ho => ⟨⟨_, ls.length, rfl, ?_⟩, hZ⟩)
      have hF := Tx.lay (S := fun b => b < Z.heap.size) hT ((ho (w.heap.size + 1) (by omega)).trans hrow) (by omega) (Nat.le_refl _) (by simp only [maxLen]; omega)
      exact hF.lay fun b h => h
end Go.Proofs.YtebkmlbpngpmdaaDoor
namespace Go.Proofs.YtebkmlbpngpmdaaDoor
open Go Go.RowKit

theorem Tryd.ofText : (Tryd.prog.info? 9).map (fun i => (i.zero, i.size, i.bytes)) = some (some (.string ⟨#[]⟩), 1, 16) := by kernel_rfl

theorem M.each_ok {least most : Int} : ∀ {xs : List M.It}, (∀ x ∈ xs, (M.getText least most x).2 = 0) → M.getEach least most xs = (xs.map fun x => (M.getText least most x).1, 0)
  | [], _ => rfl
  | x :: xs, h => by
    have ih := M.each_ok fun y hy => h y (List.mem_cons_of_mem _ hy)
    rw [M.getEach, ih, if_neg (by rw [h x (by simp)]; simp), if_neg (by simp)]
    rfl
theorem M.each_fails {least most : Int} : ∀ {xs : List M.It} {k : Nat} {x : M.It}, xs[k]? = some x → (∀ y ∈ xs.take k, (M.getText least most y).2 = 0) → (M.getText least most x).2 ≠ 0 → M.getEach least most xs = ([], (M.getText least most x).2)
  | [], _, _, h, _, _ => by simp at h
  | y :: xs, 0, x, h, _, hx => by
    simp at h
    subst h
    rw [M.getEach, if_pos hx]
  | y :: xs, k + 1, x, h, hall, hx => by
    simp at h
    have ih := M.each_fails h (fun z hz => hall z (by rw [List.take_succ_cons]; exact List.mem_cons_of_mem _ hz)) hx
    rw [M.getEach, ih, if_neg (by rw [hall y (by simp)]; simp), if_pos hx]

/-- Texts in cells. -/
def Sx (cur : Array Value) (ls : List (List UInt8)) : Prop := ∀ (i : Nat) (s : List UInt8), ls[i]? = some s → cur[i]? = some (Value.string ⟨s.toArray⟩)
theorem Sx.nil (cur : Array Value) : Sx cur [] := fun i s h => by simp at h
theorem Sx.put {cur : Array Value} {ls : List (List UInt8)} (h : Sx cur ls) (hk : ls.length < cur.size) (s : List UInt8) : Sx (cur.setIfInBounds ls.length (.string ⟨s.toArray⟩)) (ls ++ [s]) := fun i t hi => by
  by_cases e : i < ls.length
  · rw [List.getElem?_append_left e] at hi
    rw [Array.getElem?_setIfInBounds_ne (by omega)]
    exact h i t hi
  · have hlt := (List.getElem?_eq_some_iff.1 hi).1
    rw [List.length_append, List.length_singleton] at hlt
    obtain rfl : i = ls.length := by omega
    rw [List.getElem?_append_right (Nat.le_refl _)] at hi
    simp at hi
    subst hi
    rw [Array.getElem?_setIfInBounds_self_of_lt hk]
theorem Sx.ts {W : World} {g n cap : Nat} {cur : Array Value} {ls : List (List UInt8)} (h : Sx cur ls) (hrow : W.heap[g]? = some (.cells cur 9 (0, 0))) (hg : g < n) (hc : ls.length ≤ cap) (hm : cap ≤ maxLen) : Ts W n ls (.slice (some ⟨g, 0, none⟩) ls.length cap) :=
  .row hg hc hm fun i s hi => by simp [World.cell?, hrow, h i s hi]

set_option maxRecDepth 100000 in
set_option maxHeartbeats 4000000 in
theorem texts_read (xs : List M.It) (a : Option Addr) (cap : Nat) (least most : Int) (p q : Nat) (w : World) (hL : Lay w w.heap.size xs (.slice a xs.length cap)) (hn : xs.length ≤ 4000)
    (hR : ∀ (k : Nat) (l : Bool) (d : List UInt8) (ys : List M.It), xs[k]? = some (M.It.mk l d ys) → ∀ W a' cap', Lay W W.heap.size ys (.slice a' ys.length cap') → Rd W l d ys a' cap')
    (hp : w.cell? ⟨p, 0, none⟩ = some (.int .i64 least)) (hq : w.cell? ⟨q, 0, none⟩ = some (.int .i64 most)) :
    Calls Tryd.prog 47 #[.slice a xs.length cap, .pointer (some ⟨p, 0, none⟩), .pointer (some ⟨q, 0, none⟩)] w fun e w' =>
      (∃ a' cap', e = .returned (.tuple #[.slice a' (M.getEach least most xs).1.length cap', .int .i64 ((M.getEach least most xs).2 : Nat)]) ∧ Ts w' w'.heap.size (M.getEach least most xs).1 (.slice a' (M.getEach least most xs).1.length cap')) ∧ Below w.heap.size w w' := by
  have hpl := World.block_lt_of_cell? _ _ hp
  have hql := World.block_lt_of_cell? _ _ hq
  obtain ⟨i, hi, hz0, hz1, hz2⟩ := info_parts Tryd.ofText
  have hmk : (Instr.makeSlice 25 (.int .i64 (xs.length : Int)) (.int .i64 (xs.length : Int))).run Tryd.prog w = .ok (.slice (some ⟨w.heap.size, 0, none⟩) xs.length xs.length) (w.alloc (.cells (madeCells (Value.string ⟨#[]⟩).cells xs.length) 9)) := by
    have h := run_make (P := Tryd.prog) w 25 9 i _ Tryd.underlying25 hi hz0 .i64 .i64 (xs.length : Int) (xs.length : Int) (by omega) (by omega) (by rw [hz2]; omega) (by omega)
    simpa [hz1] using h
  obtain ⟨m, hm⟩ : ∃ m, m = madeCells (Value.string ⟨#[]⟩).cells xs.length := ⟨_, rfl⟩
  have hms : m.size = xs.length := by rw [hm, size_madeCells]
  rw [← hm] at hmk
  clear hm
  obtain ⟨w0, hw0⟩ : ∃ w0, w.alloc (.cells m 9) = w0 := ⟨_, rfl⟩
  have hb0 : Below w.heap.size w w0 := by rw [← hw0]; (repeat (first | exact Below.refl _ _ | refine Below.drew ?_ | refine Below.alloc ?_ (by first | omega | (simp; omega) | simp) _ | refine Below.setCell ?_ (by first | omega | (simp; omega) | simp) _))
  have hz0' : w0.heap.size = w.heap.size + 1 := by rw [← hw0]; simp
  have hrow0 : w0.heap[w.heap.size]? = some (.cells m 9 (0, 0)) := by rw [← hw0]; exact heap_alloc_new w _
  rw [hw0] at hmk
  have HL := Lib.hid hL
  have HR := Lib.hid hR
  have HP := Lib.hid hp
  have HQ := Lib.hid hq
  clear hw0 hL hR hi hz0 hz1 hz2 hp hq
  go_enter Tryd.func47, Tryd.ntmps47
  go_wp2_with fail
  have hmk := Lib.hid hmk
  go_loopw [16] (fun i wr => ∃ (k : Nat) (cur : Array Value), k ≤ xs.length ∧ i = .int .i64 k ∧ wr.heap[w.heap.size]? = some (.cells cur 9 (0, 0)) ∧ cur.size = xs.length ∧ Sx cur ((xs.take k).map fun x => (M.getText least most x).1) ∧ (∀ x ∈ xs.take k, (M.getText least most x).2 = 0) ∧ Below w.heap.size w0 wr) (fun i _ => xs.length - (intOf i).toNat)
  case atStart => exact ⟨0, m, by omega, rfl, hrow0, hms, by rw [List.take_zero]; exact Sx.nil m, fun x h => by simp at h, Below.refl _ _⟩
  case round =>
    obtain ⟨k, cur, hk, rfl, hrow, hcs, hT, hall, hb⟩ := hrel
    have hwr : Below w.heap.size w wr := hb0.trans (hb.mono (by omega))
    have hsz : w.heap.size < wr.heap.size := (Array.getElem?_eq_some_iff.1 hrow).1
    by_cases hlt : k < xs.length
    · have hk2 : k < 4000 := by omega
      obtain ⟨b, o, _, l, d, ys, u, hv, hbn, hks, c0, c1, c2, hLy⟩ := (HL.out.from_ hwr).at_ hlt
      simp only [Value.slice.injEq, true_and] at hv
      obtain ⟨rfl, rfl⟩ := hv
      obtain ⟨ay, capy, rfl, _, _⟩ := hLy.slice
      have cp := (hwr.cell (p := ⟨p, 0, none⟩) hpl).trans HP.out
      have cq := (hwr.cell (p := ⟨q, 0, none⟩) hql).trans HQ.out
      have HT := Lib.hid (fun W (h : Below wr.heap.size wr W) => get_text l d ys ay capy least most W (HR.out k l d ys hks W ay capy ((hLy.from_ (h.mono hwr.size)).mono (Nat.le_trans hwr.size h.size))))
      have hpl2 : p < wr.heap.size := by omega
      have hql2 : q < wr.heap.size := by omega
      have hall2 := Lib.hid hall
      have hT2 := Lib.hid hT
      clear hall hT
      go_wp2_with fail
      refine (HT.out _ ((Below.refl _ wr).alloc (Nat.le_refl _) _)).mono ?_
      rintro e w2 ⟨rfl, hb2⟩
      have hsz2 : wr.heap.size + 1 ≤ w2.heap.size := by simpa using hb2.size
      have hrow2 : w2.heap[w.heap.size]? = some (.cells cur 9 (0, 0)) := (hb2.block _ (by simp; omega)).trans ((Below.heap_alloc wr _ _ hsz).trans hrow)
      have hb12 : Below wr.heap.size wr w2 := ((Below.refl _ wr).alloc (Nat.le_refl _) _).trans (hb2.mono (by simp))
      have hw2 : Below w.heap.size w w2 := hwr.trans (hb12.mono hwr.size)
      by_cases hz : (M.getText least most (.mk l d ys)).2 = 0
      · rw [hz]
        have hx : (M.getText least most (.mk l d ys)).1 = (M.getText least most (.mk l d ys)).1 := rfl
        have z0 : w2.cell? ⟨w.heap.size, k, none⟩ = some cur[k] := by simp [World.cell?, hrow2, show k < cur.size by omega]
        have y0 : w2.frozen? ⟨w.heap.size, k, none⟩ = false := by simp [World.frozen?, hrow2]
        have hlk : ((xs.take k).map fun x => (M.getText least most x).1).length = k := by rw [List.length_map, List.length_take]; omega
        have hT3 := hT2.out.put (by rw [hlk]; omega) (M.getText least most (.mk l d ys)).1
        have hnx : (xs.take (k + 1)) = xs.take k ++ [.mk l d ys] := by rw [List.take_add_one, hks]; rfl
        have hT4 : Sx (cur.setIfInBounds k (.string ⟨(M.getText least most (.mk l d ys)).1.toArray⟩)) ((xs.take (k + 1)).map fun x => (M.getText least most x).1) := by
          rw [hnx, List.map_append]
          rw [hlk] at hT3
          exact hT3
        have hall4 : ∀ x ∈ xs.take (k + 1), (M.getText least most x).2 = 0 := fun x hx => by
          rw [hnx] at hx
          rcases List.mem_append.1 hx with h | h
          · exact hall2.out x h
          · simp only [List.mem_singleton] at h
            rw [h]; exact hz
        have hrow3 := setRow_heap w2 w.heap.size cur (cur.setIfInBounds k (.string ⟨(M.getText least most (.mk l d ys)).1.toArray⟩)) _ (0, 0) hrow2
        rw [← setCell_eq_setRow w2 w.heap.size k cur _ (0, 0) _ hrow2] at hrow3
        have hb3 : Below w.heap.size w0 (w2.setCell ⟨w.heap.size, k, none⟩ (.string ⟨(M.getText least most (.mk l d ys)).1.toArray⟩)) := Below.setCell (hb.trans (hb12.mono (by omega))) (Nat.le_refl _) _
        have hcs3 : (cur.setIfInBounds k (.string ⟨(M.getText least most (.mk l d ys)).1.toArray⟩)).size = xs.length := by rw [Array.size_setIfInBounds]; exact hcs
        generalize (M.getText least most (.mk l d ys)).1 = r at *
        generalize cur[k] = v0 at *
        have hT5 := Lib.hid hT4
        have hall5 := Lib.hid hall4
        clear hT3 hT4 hall4 hall2 hT2 hx hnx hlk hb2 hrow2 hrow
        go_wp2_with fail
        go_roundw
        case rel => exact ⟨k + 1, _, by omega, by simp, hrow3, hcs3, hT5.out, hall5.out, hb3⟩
        case measure => simp [intOf]; omega
      · have he := M.each_fails hks hall2.out hz
        generalize (M.getText least most (.mk l d ys)).2 = r at *
        have hr : ¬ ((r : Nat) : Int) = 0 := by omega
        have HE := Lib.hid he
        clear hT2 hall2 he hb2 hrow2 hrow
        go_wp2_with fail
        go_ret2
        rw [HE.out]
        exact ⟨⟨_, _, rfl, .nil_ (by decide)⟩, hw2⟩
    · obtain rfl : k = xs.length := by omega
      rw [List.take_length] at hT hall
      have he := M.each_ok hall
      have hts := hT.ts (n := wr.heap.size) (cap := xs.length) hrow hsz (by rw [List.length_map]; exact Nat.le_refl _) (by simp only [maxLen]; omega)
      rw [List.length_map] at hts
      have HE := Lib.hid he
      clear he hT hall
      go_wp2_with fail
      go_ret2
      rw [HE.out]
      simp only [List.length_map]
      exact ⟨⟨_, _, rfl, hts⟩, hwr⟩

set_option maxRecDepth 100000 in
set_option maxHeartbeats 4000000 in
theorem get_texts : GTextsOk := by
  intro l d xs a cap many least most w hR
  have E1 : ∀ args w, (callFunc 47 args).run Tryd.prog w = .ok (.enter 47 args) w := enters_of Tryd.func47 (by kernel_rfl) rfl
  have hx : ∀ (k : Nat) (l : Bool) (d : List UInt8) (ys : List M.It), xs[k]? = some (M.It.mk l d ys) → ∀ W a' cap', Lay W W.heap.size ys (.slice a' ys.length cap') → Rd W l d ys a' cap' := by
    intro k l1 d1 ys hk W a' cap' hL
    have hmem := List.mem_of_getElem? hk
    have hsm := hR.2.1
    rw [M.smI] at hsm
    have hcn := M.cntI_part hmem
    rw [M.cntI] at hcn
    have hfo := M.formI_ok hR.2.2.2
    refine ⟨hL, M.smI_part hsm.2 hmem, by have := hR.2.2.1; omega, ?_⟩
    cases l with
    | true => exact M.formI_mono _ _ _ (M.part_form (hfo.1 rfl).2.2.2 _ hmem) (by omega)
    | false =>
      obtain rfl := hfo.2 rfl
      simp at hk
  have HL : Hid (∀ p q W, W.cell? ⟨p, 0, none⟩ = some (.int .i64 least) → W.cell? ⟨q, 0, none⟩ = some (.int .i64 most) → Below w.heap.size w W →
      Calls Tryd.prog 46 #[iv l d (.slice a xs.length cap), .int .i64 0, .int .i64 many, .func (.func 47) #[] #[.pointer (some ⟨p, 0, none⟩), .pointer (some ⟨q, 0, none⟩)]] W fun e w' =>
        (∃ a' cap', e = .returned (.tuple #[.slice a' (M.getTexts many least most (.mk l d xs)).1.length cap', .int .i64 ((M.getTexts many least most (.mk l d xs)).2 : Nat)]) ∧ Ts w' w'.heap.size (M.getTexts many least most (.mk l d xs)).1 (.slice a' (M.getTexts many least most (.mk l d xs)).1.length cap')) ∧ Below W.heap.size W w') := by
    refine Lib.hid fun p q W hp hq hW => ?_
    have hb0 : Below W.heap.size W (W.alloc (.cells #[.bool l, .string ⟨d.toArray⟩, .slice a xs.length cap] 30)) := by (repeat (first | exact Below.refl _ _ | refine Below.drew ?_ | refine Below.alloc ?_ (by first | omega | (simp; omega) | simp) _ | refine Below.setCell ?_ (by first | omega | (simp; omega) | simp) _))
    have hplt := World.block_lt_of_cell? _ _ hp
    have hqlt := World.block_lt_of_cell? _ _ hq
    cases l with
    | false =>
      have hg : M.getTexts many least most (.mk false d xs) = ([], 2) := rfl
      rw [hg]
      go_enter Tryd.func46, Tryd.ntmps46
      go_wp2_with fail
      go_ret2
      exact ⟨⟨_, _, rfl, .nil_ (by decide)⟩, hb0⟩
    | true =>
      obtain ⟨rfl, _, _, _⟩ := (M.formI_ok hR.2.2.2).1 rfl
      have HN := Lib.hid (fun V => count_any xs.length 0 many V)
      by_cases hz : M.within xs.length 0 many = 0
      · have hg : M.getTexts many least most (.mk true [] xs) = M.getEach least most xs := by simp [M.getTexts, M.getList, hz]
        have HE := Lib.hid (fun V (h : Below W.heap.size W V) => texts_read xs a cap least most p q V (((hR.1.from_ hW).from_ (h.mono hW.size)).mono (Nat.le_trans hW.size h.size)) (Nat.le_trans (M.length_cnt xs) hR.2.2.1) hx ((h.cell (p := ⟨p, 0, none⟩) hplt).trans hp) ((h.cell (p := ⟨q, 0, none⟩) hqlt).trans hq))
        rw [hz] at HN
        rw [hg]
        generalize M.getEach least most xs = r at *
        clear hg hz hx hR hp hq
        go_enter Tryd.func46, Tryd.ntmps46
        go_wp2_with fail
        refine (HN.out _).mono ?_
        rintro e w1 ⟨rfl, hb1⟩
        obtain ⟨hce, hfr⟩ := bcell hb1
        go_wp2_with fail
        refine (HE.out _ (hb0.trans (hb1.mono (by simp)))).mono ?_
        rintro e w2 ⟨⟨a', cap', rfl, ht⟩, hb2⟩
        go_wp2_with fail
        go_ret2
        exact ⟨⟨_, _, rfl, ht⟩, hb0.trans ((hb1.trans (hb2.mono hb1.size)).mono (by simp))⟩
      · have hg : M.getTexts many least most (.mk true [] xs) = ([], M.within xs.length 0 many) := by simp [M.getTexts, M.getList, hz]
        rw [hg]
        generalize M.within xs.length 0 many = r at *
        have hr : ¬ ((r : Nat) : Int) = 0 := by omega
        clear hg hx hR
        go_enter Tryd.func46, Tryd.ntmps46
        go_wp2_with fail
        refine (HN.out _).mono ?_
        rintro e w1 ⟨rfl, hb1⟩
        go_wp2_with fail
        go_ret2
        exact ⟨⟨_, _, rfl, .nil_ (by decide)⟩, hb0.trans (hb1.mono (by simp))⟩
  clear hx hR E1
  generalize M.getTexts many least most (.mk l d xs) = r at *
  go_enter Tryd.func24, Tryd.ntmps24
  go_wp2_with fail
  refine (HL.out _ _ _ (by simp [go_sem]) (by simp [go_sem]) ?_).mono ?_
  · (repeat (first | exact Below.refl _ _ | refine Below.drew ?_ | refine Below.alloc ?_ (by first | omega | (simp; omega) | simp) _ | refine Below.setCell ?_ (by first | omega | (simp; omega) | simp) _))
  rintro e w1 ⟨⟨a', cap', rfl, ht⟩, hb1⟩
  go_wp2_with fail
  go_ret2
  refine ⟨⟨_, _, rfl, ht⟩, Below.trans ?_ (hb1.mono (by first | omega | (simp; omega) | simp))⟩
  (repeat (first | exact Below.refl _ _ | refine Below.drew ?_ | refine Below.alloc ?_ (by first | omega | (simp; omega) | simp) _ | refine Below.setCell ?_ (by first | omega | (simp; omega) | simp) _))
end Go.Proofs.YtebkmlbpngpmdaaDoor
namespace Go.Proofs.YtebkmlbpngpmdaaDoor
open Go Go.RowKit

theorem fields_ok : Fields where
  number := field_number
  word := field_word
  text := field_text
  bool_ := field_bool
  list := field_list
  texts := field_texts
  gNumber := get_number
  gWord := get_word
  gText := get_text
  gBool := get_bool
  gAddr := get_addr
  gList := get_list
  gTexts := get_texts
end Go.Proofs.YtebkmlbpngpmdaaDoor
