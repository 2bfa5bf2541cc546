/- The three functions that Encode hands to fold. rlp.fold, whatever it is handed. rlp.Deep and rlp.Size. rlp.faultOf, rlp.giveUp. rlp.Check: the closure that looks at an item, and at what is in it. -/
import Derived.Test.YtihiacbhdcahkaaGreatDoorH17
import Derived.Test.YtihiacbhdcahkaaGreatDoorH02
namespace Go.Proofs.YtihiacbhdcahkaaGreatDoor
open Go Go.RowKit

def bytV : M.It ⊕ List M.It → List UInt8 | .inl x => M.bytesI x | .inr xs => M.bytesIs xs
def OwV : Nat → Value → World → (M.It ⊕ List M.It) → Prop := fun B v w y => Ow B (bytV y) v w

theorem enc_f1 (d : List UInt8) (ys : List M.It) (w : World) (hok : (M.bytesI (.mk false d ys)).length ≤ 65536) :
    Calls Tryz.prog 84 #[.string ⟨d.toArray⟩] w fun e w' => (∃ v, e = .returned v ∧ OwV w.heap.size v w' (.inl (.mk false d ys))) ∧ Below w.heap.size w w' := by
  rw [bytes_hdB, List.length_append] at hok
  have HH := Lib.hid (headOfBytes_any d w (by omega))
  unfold OwV bytV
  simp only [bytes_hdB]
  generalize hdB d = hd at *
  go_enter Tryz.func84, Tryz.ntmps84
  go_wp2_with fail
  refine HH.out.mono ?_
  rintro e w1 ⟨⟨u, rfl, hu⟩, hb1⟩
  go_wp2_with (at_builtin; refine wpList_append_ow_str _ rfl _ _ rfl w.heap.size hd d u rfl rfl hu (by omega) hb1.size ?_; intro v w2 ho2 hb2)
  go_ret
  exact ⟨⟨v, rfl, ho2⟩, hb1.trans hb2⟩

theorem enc_f2 (xs : List M.It) (x : M.It) (B C : Nat) (v u : Value) (w : World) (hok : (M.bytesIs (xs ++ [x])).length ≤ 65536) (hv : OwV B v w (.inr xs)) (hu : OwV C u w (.inl x)) (hB : B ≤ w.heap.size) :
    Calls Tryz.prog 86 #[v, u] w fun e w' => (∃ v', e = .returned v' ∧ OwV B v' w' (.inr (xs ++ [x]))) ∧ w.grownBy w' v.ownBlock := by
  have e : M.bytesIs (xs ++ [x]) = M.bytesIs xs ++ M.bytesI x := by rw [M.bytesIs_append]; simp [M.bytesIs]
  rw [e, List.length_append] at hok
  unfold OwV bytV at *
  simp only [e] at *
  generalize M.bytesIs xs = m at *
  generalize M.bytesI x = k at *
  clear e
  go_enter Tryz.func86, Tryz.ntmps86
  go_wp2_with (at_builtin; refine wpList_append_ow _ rfl _ _ rfl B m k v u rfl rfl hv hu.sr (by omega) hB ?_; intro v2 w2 ho2 hb2 hg2)
  go_ret
  exact ⟨⟨v2, rfl, ho2⟩, hg2⟩

theorem enc_f3 (d : List UInt8) (xs : List M.It) (B : Nat) (v : Value) (w : World) (hok : (M.bytesI (.mk true d xs)).length ≤ 65536) (hv : OwV B v w (.inr xs)) :
    Calls Tryz.prog 87 #[v] w fun e w' => (∃ v', e = .returned v' ∧ OwV w.heap.size v' w' (.inl (.mk true d xs))) ∧ Below w.heap.size w w' := by
  rw [M.bytesI, List.length_append] at hok
  have HH := Lib.hid (head_any (M.bytesIs xs).length 192 w (by omega) (by omega))
  unfold OwV bytV at *
  simp only [M.bytesI] at *
  generalize M.bytesIs xs = m at *
  generalize M.hdL m.length 192 = hd at *
  obtain ⟨a, cap, hvl⟩ := hv.len
  subst hvl
  go_enter Tryz.func87, Tryz.ntmps87
  go_wp2_with fail
  refine HH.out.mono ?_
  rintro e w1 ⟨⟨u, rfl, hu⟩, hb1⟩
  have hv1 := (hv.from_ hb1).sr
  go_wp2_with (at_builtin; refine wpList_append_ow _ rfl _ _ rfl w.heap.size hd m u _ rfl rfl hu hv1 (by omega) hb1.size ?_; intro v2 w2 ho2 hb2 hg2)
  go_ret
  exact ⟨⟨v2, rfl, ho2⟩, hb1.trans hb2⟩

theorem enc_folds : Folds 84 86 87 (fun x => (M.bytesI x).length ≤ 65536) (fun xs => (M.bytesIs xs).length ≤ 65536) OwV OwV (.slice none 0 0) where
  e1 := enters_of Tryz.func84 (by kernel_rfl) rfl
  e2 := enters_of Tryz.func86 (by kernel_rfl) rfl
  e3 := enters_of Tryz.func87 (by kernel_rfl) rfl
  keepA := fun _ _ _ _ _ h hb => Ow.from_ h hb
  monoR := fun _ _ _ _ _ h hb => Ow.mono h hb
  own := fun _ _ _ _ h k e => World.ownsRow.lt h k e
  zero := fun _ _ => Ow.nil _ _
  f1 := fun d ys w hok => enc_f1 d ys w hok
  f2 := fun xs x B C v u w hok hv hu hB => enc_f2 xs x B C v u w hok hv hu hB
  f3 := fun d xs B v w hok hv => enc_f3 d xs B v w hok hv
  part := fun d xs k x hok h => by
    rw [M.bytesI, List.length_append] at hok
    have h1 := M.part_size xs x (List.mem_of_getElem? h)
    have h2 := M.bytesIs_part xs (k + 1)
    exact ⟨by omega, by omega⟩
end Go.Proofs.YtihiacbhdcahkaaGreatDoor
namespace Go.Proofs.YtihiacbhdcahkaaGreatDoor
open Go Go.RowKit

set_option maxRecDepth 100000 in
set_option maxHeartbeats 4000000 in
theorem fold_any {g1 g2 g3 : FuncId} {ok : M.It → Prop} {oks : List M.It → Prop} {R A : Nat → Value → World → (M.It ⊕ List M.It) → Prop} (hF : Folds g1 g2 g3 ok oks R A (.int .i64 0))
    (l : Bool) (d : List UInt8) (xs : List M.It) (v : Value) (w : World) (hL : Lay w w.heap.size xs v) (hc : M.cntIs xs ≤ 4000) (hok : ok (.mk l d xs)) :
    Calls Tryz.prog 202 #[iv l d v, .func (.func g1) #[] #[], .func (.func g2) #[] #[], .func (.func g3) #[] #[]] w fun e w' => (∃ u, e = .returned u ∧ R w.heap.size u w' (.inl (.mk l d xs))) ∧ Below w.heap.size w w' := by
  obtain ⟨a, cap, hv, _, _⟩ := hL.slice
  subst hv
  have hmf : ∀ (fn : Fn) (first cap : Array Value) (w : World), (Instr.makeFunc fn first cap).run Tryz.prog w = .ok (.func fn first cap) w := fun _ _ _ _ => rfl
  have hst : ∀ (W : World) (p : Addr) (F : Fn) (xa xb : Array Value), (W.cell? p).isSome = true → W.frozen? p = false → (store p (.func F xa xb)).run Tryz.prog W = .ok () (W.setCell p (.func F xa xb)) := by
    intro W p F xa xb h1 h2
    rw [run_store _ _ _ _ _ rfl]
    obtain ⟨x, hx⟩ := Option.isSome_iff_exists.1 h1
    rw [hx]
    simp [h2]
  go_enter Tryz.func202, Tryz.ntmps202
  go_wp2_with fail
  refine (fold_n hF (w.heap.size + 1) (w.heap.size + 1 + 1) (w.heap.size + 1 + 1 + 1 + 1) (w.heap.size + 1 + 1 + 1) _ l d xs _ _ (Nat.le_refl _) ?lay hc hok ?caps).mono ?_
  case lay =>
    refine (hL.from_ (W := _) ?_).mono ?_
    · (repeat (first | exact Below.refl _ _ | refine Below.drew ?_ | refine Below.alloc ?_ (by first | omega | (simp; omega) | simp) _ | refine Below.setCell ?_ (by first | omega | (simp; omega) | simp) _))
    · simp; omega
  case caps =>
    constructor <;> first | (simp; done) | (simp; omega) | (simp [go_sem]; done)
  rintro e w1 ⟨⟨u, rfl, hu⟩, hb1⟩
  go_wp2_with fail
  go_ret
  refine ⟨⟨u, rfl, hF.monoR _ _ _ _ _ hu (by simp; omega)⟩, Below.trans ?_ (hb1.mono (by simp; omega))⟩
  (repeat (first | exact Below.refl _ _ | refine Below.drew ?_ | refine Below.alloc ?_ (by first | omega | (simp; omega) | simp) _ | refine Below.setCell ?_ (by first | omega | (simp; omega) | simp) _))
end Go.Proofs.YtihiacbhdcahkaaGreatDoor
namespace Go.Proofs.YtihiacbhdcahkaaGreatDoor
open Go Go.RowKit

def sizeV : M.It ⊕ List M.It → Nat | .inl x => (M.bytesI x).length | .inr xs => (M.bytesIs xs).length
def NumV (f : M.It ⊕ List M.It → Nat) : Nat → Value → World → (M.It ⊕ List M.It) → Prop := fun _ v _ y => v = .int .i64 (f y : Nat)

set_option maxRecDepth 100000 in
set_option maxHeartbeats 4000000 in
theorem size_folds : Folds 203 204 205 (fun x => (M.bytesI x).length ≤ 4611686018427380000) (fun xs => (M.bytesIs xs).length ≤ 4611686018427380000) (NumV sizeV) (NumV sizeV) (.int .i64 0) where
  e1 := enters_of Tryz.func203 (by kernel_rfl) rfl
  e2 := enters_of Tryz.func204 (by kernel_rfl) rfl
  e3 := enters_of Tryz.func205 (by kernel_rfl) rfl
  keepA := fun _ _ _ _ _ h _ => h
  monoR := fun _ _ _ _ _ h _ => h
  own := fun _ _ _ _ h k e => by rw [h] at e; cases e
  zero := fun _ _ => rfl
  f1 := fun d ys w hok => by
    rw [bytes_hdB, List.length_append] at hok
    have HH := Lib.hid (headOfBytes_any d w (by omega))
    have e : sizeV (.inl (.mk false d ys)) = (hdB d).length + d.length := by unfold sizeV; simp only [bytes_hdB, List.length_append]
    unfold NumV
    simp only [e]
    generalize hdB d = hd at *
    clear e
    go_enter Tryz.func203, Tryz.ntmps203
    go_wp2_with fail
    refine HH.out.mono ?_
    rintro e w1 ⟨⟨u, rfl, hu⟩, hb1⟩
    obtain ⟨a, cap, rfl⟩ := hu.len
    go_wp2_with fail
    go_ret
    exact ⟨⟨_, rfl, by simp⟩, hb1⟩
  f2 := fun xs x B C v u w hok hv hu hB => by
    unfold NumV at hv hu
    subst hv hu
    have e : (M.bytesIs (xs ++ [x])).length = (M.bytesIs xs).length + (M.bytesI x).length := by rw [M.bytesIs_append]; simp [M.bytesIs]
    rw [e] at hok
    unfold NumV sizeV
    simp only [e]
    generalize (M.bytesIs xs).length = m at *
    generalize (M.bytesI x).length = k at *
    clear e
    have hok' : (m : Int) + (k : Int) ≤ 4611686018427380000 := by omega
    go_enter Tryz.func204, Tryz.ntmps204
    go_wp2_with fail
    go_ret
    exact ⟨⟨_, rfl, by simp⟩, grown_refl _ _⟩
  f3 := fun d xs B v w hok hv => by
    unfold NumV at hv
    subst hv
    rw [M.bytesI, List.length_append] at hok
    have HH := Lib.hid (head_any (M.bytesIs xs).length 192 w (by omega) (by omega))
    unfold NumV sizeV
    simp only [M.bytesI, List.length_append]
    generalize M.hdL (M.bytesIs xs).length 192 = hd at *
    generalize (M.bytesIs xs).length = m at *
    have hok' : (hd.length : Int) + (m : Int) ≤ 4611686018427380000 := by omega
    go_enter Tryz.func205, Tryz.ntmps205
    go_wp2_with fail
    refine HH.out.mono ?_
    rintro e w1 ⟨⟨u, rfl, hu⟩, hb1⟩
    obtain ⟨a, cap, rfl⟩ := hu.len
    go_wp2_with fail
    go_ret
    exact ⟨⟨_, rfl, by simp⟩, hb1⟩
  part := fun d xs k x hok h => by
    rw [M.bytesI, List.length_append] at hok
    have h1 := M.part_size xs x (List.mem_of_getElem? h)
    have h2 := M.bytesIs_part xs (k + 1)
    exact ⟨by omega, by omega⟩

set_option maxRecDepth 100000 in
set_option maxHeartbeats 4000000 in
theorem size_any (l : Bool) (d : List UInt8) (xs : List M.It) (v : Value) (w : World) (hL : Lay w w.heap.size xs v) (hc : M.cntIs xs ≤ 4000) (hz : (M.bytesI (.mk l d xs)).length ≤ 4611686018427380000) :
    Calls Tryz.prog 129 #[iv l d v] w fun e w' => e = .returned (.int .i64 ((M.bytesI (.mk l d xs)).length : Nat)) ∧ Below w.heap.size w w' := by
  obtain ⟨a, cap, hv, _, _⟩ := hL.slice
  subst hv
  have hb0 : Below w.heap.size w (w.alloc (.cells #[.bool l, .string ⟨d.toArray⟩, .slice a xs.length cap] 45)) := by (repeat (first | exact Below.refl _ _ | refine Below.drew ?_ | refine Below.alloc ?_ (by first | omega | (simp; omega) | simp) _ | refine Below.setCell ?_ (by first | omega | (simp; omega) | simp) _))
  have hf := fold_any size_folds l d xs _ _ ((hL.from_ hb0).mono (by simp)) hc hz
  have HF := Lib.hid hf
  clear hf
  go_enter Tryz.func129, Tryz.ntmps129
  go_wp2_with fail
  refine HF.out.mono ?_
  rintro e w1 ⟨⟨u, rfl, hu⟩, hb1⟩
  rw [show u = _ from hu]
  go_wp2_with fail
  go_ret
  exact ⟨rfl, hb0.trans (hb1.mono (by simp))⟩
end Go.Proofs.YtihiacbhdcahkaaGreatDoor
namespace Go.Proofs.YtihiacbhdcahkaaGreatDoor
open Go Go.RowKit

/-- What is wrong with an item by itself. -/
def fltN (l : Bool) (d : List UInt8) (n dd : Nat) : Nat := if (l = true ∧ d ≠ []) ∨ (l = false ∧ 0 < n) then 2 else if l = true ∧ 12 ≤ dd then 7 else if 512 < n then 5 else 0
theorem formI_flt (l : Bool) (d : List UInt8) (xs : List M.It) (dd : Nat) : M.formI dd (.mk l d xs) = if fltN l d xs.length dd ≠ 0 then fltN l d xs.length dd else M.formIs (dd + 1) xs := by
  rw [M.formI]
  unfold fltN
  have hx : xs ≠ [] ↔ 0 < xs.length := by rw [← List.length_pos_iff]
  cases l with
  | false =>
    cases xs with
    | nil => simp [M.formIs]
    | cons x xs => simp
  | true =>
    by_cases hd : d = []
    · subst hd
      by_cases h12 : 12 ≤ dd
      · simp [h12]
      · by_cases h5 : 512 < xs.length
        · simp [h12, h5]
        · simp [h12, h5]
    · simp [hd]

set_option maxRecDepth 100000 in
set_option maxHeartbeats 4000000 in
theorem fault_any (l : Bool) (d : List UInt8) (n dd cap : Nat) (a : Option Addr) (w : World) (hn : n ≤ 4000) (hd : dd ≤ 4000) :
    Calls Tryz.prog 128 #[iv l d (.slice a n cap), .int .i64 (dd : Nat)] w fun e w' => e = .returned (.int .i64 (fltN l d n dd : Nat)) ∧ Below w.heap.size w w' := by
  have hb0 : Below w.heap.size w (w.alloc (.cells #[.bool l, .string ⟨d.toArray⟩, .slice a n cap] 45)) := by (repeat (first | exact Below.refl _ _ | refine Below.drew ?_ | refine Below.alloc ?_ (by first | omega | (simp; omega) | simp) _ | refine Below.setCell ?_ (by first | omega | (simp; omega) | simp) _))
  cases l with
  | true =>
    by_cases hde : d = []
    · subst hde
      by_cases h12 : 12 ≤ dd
      · have e : fltN true [] n dd = 7 := by simp [fltN, h12]
        rw [e]
        go_enter Tryz.func128, Tryz.ntmps128
        go_wp2_with fail
        go_ret
        exact ⟨rfl, hb0⟩
      · by_cases h512 : 512 < n
        · have e : fltN true [] n dd = 5 := by simp [fltN, h12, h512]
          rw [e]
          go_enter Tryz.func128, Tryz.ntmps128
          go_wp2_with fail
          go_ret
          exact ⟨rfl, hb0⟩
        · have e : fltN true [] n dd = 0 := by simp [fltN, h12, h512]
          rw [e]
          go_enter Tryz.func128, Tryz.ntmps128
          go_wp2_with fail
          go_ret
          exact ⟨rfl, hb0⟩
    · have e : fltN true d n dd = 2 := by simp [fltN, hde]
      rw [e]
      have hdm : (!d.isEmpty) = true := by cases d with | nil => exact absurd rfl hde | cons => rfl
      go_enter Tryz.func128, Tryz.ntmps128
      go_wp2_with fail
      go_ret
      exact ⟨rfl, hb0⟩
  | false =>
    by_cases hx : n = 0
    · subst hx
      have e : fltN false d 0 dd = 0 := by simp [fltN]
      rw [e]
      go_enter Tryz.func128, Tryz.ntmps128
      go_wp2_with fail
      go_ret
      exact ⟨rfl, hb0⟩
    · have hp : 0 < n := by omega
      have e : fltN false d n dd = 2 := by simp [fltN, hp]
      rw [e]
      go_enter Tryz.func128, Tryz.ntmps128
      go_wp2_with fail
      go_ret
      exact ⟨rfl, hb0⟩

/-- What a panic with an error leaves. -/
abbrev pan (q : Nat) : Ending := .panicked [{ v := .iface 28 (.int .i64 (q : Nat)), recovered := false }]
/-- Back, or a panic. -/
def orPan (q : Nat) : Ending := if q = 0 then .returned (.tuple #[]) else pan q

set_option maxRecDepth 100000 in
set_option maxHeartbeats 4000000 in
theorem giveUp_any (q : Nat) (w : World) (hq : q ≤ 100) :
    Calls Tryz.prog 127 #[.int .i64 (q : Nat)] w fun e w' => e = orPan q ∧ w' = w := by
  unfold orPan
  have hpan : ∀ (t : TypeId) (v : Value) (w : World), (Instr.panic (.iface t v)).run Tryz.prog w = .halt (.panic (.iface t v)) w := fun _ _ _ => rfl
  by_cases h : q = 0
  · subst h
    go_enter Tryz.func127, Tryz.ntmps127
    go_wp2_with fail
    go_end0
    exact ⟨rfl, rfl⟩
  · rw [if_neg h]
    have hne : ((q : Int) != 0) = true := by rw [bne_iff_ne]; omega
    go_enter Tryz.func127, Tryz.ntmps127
    go_wp2_with fail
    exact ⟨rfl, rfl, rfl⟩
end Go.Proofs.YtihiacbhdcahkaaGreatDoor
namespace Go.Proofs.YtihiacbhdcahkaaGreatDoor
open Go Go.RowKit

theorem orPan_0 : orPan 0 = .returned (.tuple #[]) := rfl
theorem orPan_ne {q : Nat} (h : q ≠ 0) : orPan q = pan q := by unfold orPan; rw [if_neg h]
theorem flt_le (l : Bool) (d : List UInt8) (n dd : Nat) : fltN l d n dd ≤ 7 := by
  unfold fltN
  repeat' split
  all_goals omega

set_option maxRecDepth 100000 in
set_option maxHeartbeats 4000000 in
theorem look_n (B : Nat) (n : Nat) : ∀ (l : Bool) (d : List UInt8) (xs : List M.It) (v : Value) (w : World) (dd : Nat), SizeOf.sizeOf xs ≤ n → Lay w w.heap.size xs v → M.cntIs xs ≤ 4000 → dd ≤ 12 → B < w.heap.size → w.cell? ⟨B, 0, none⟩ = some (.func (.func 126) #[] #[.pointer (some ⟨B, 0, none⟩)]) →
    Calls Tryz.prog 126 #[iv l d v, .int .i64 (dd : Nat), .pointer (some ⟨B, 0, none⟩)] w fun e w' => e = orPan (M.formI dd (.mk l d xs)) ∧ Below w.heap.size w w' := by
  induction n with
  | zero => intro l d xs v w dd h; cases xs <;> simp at h
  | succ n ih =>
    intro l d xs v w dd hs hL hc hdd hBl hBc
    have hlc := M.length_cnt xs
    obtain ⟨a, cap, hv, hcap, hmax⟩ := hL.slice
    subst hv
    have hb0 : Below w.heap.size w (w.alloc (.cells #[.bool l, .string ⟨d.toArray⟩, .slice a xs.length cap] 45)) := by (repeat (first | exact Below.refl _ _ | refine Below.drew ?_ | refine Below.alloc ?_ (by first | omega | (simp; omega) | simp) _ | refine Below.setCell ?_ (by first | omega | (simp; omega) | simp) _))
    have hB := Box.new w l d (.slice a xs.length cap) 45
    obtain ⟨w0, hw0⟩ : ∃ w0, w.alloc (.cells #[.bool l, .string ⟨d.toArray⟩, .slice a xs.length cap] 45) = w0 := ⟨_, rfl⟩
    have hz : w0.heap.size = w.heap.size + 1 := by rw [← hw0]; simp
    have HF : Hid (∀ W, Calls Tryz.prog 128 #[iv l d (.slice a xs.length cap), .int .i64 (dd : Nat)] W fun e w' => e = .returned (.int .i64 (fltN l d xs.length dd : Nat)) ∧ Below W.heap.size W w') := fun W => fault_any l d xs.length dd cap a W (by omega) (by omega)
    have hform := formI_flt l d xs dd
    have hfl := flt_le l d xs.length dd
    have hin : fltN l d xs.length dd = 0 → 0 < xs.length → dd < 12 := by
      intro h hp
      unfold fltN at h
      cases l with
      | false => simp [hp] at h
      | true =>
        by_cases h12 : 12 ≤ dd
        · by_cases hd : d = [] <;> simp [h12, hd] at h
        · omega
    generalize fltN l d xs.length dd = q at *
    by_cases hq : q = 0
    · subst hq
      rw [if_neg (by simp)] at hform
      have hG : Hid (∀ W, Calls Tryz.prog 127 #[.int .i64 0] W fun e w' => e = .returned (.tuple #[]) ∧ w' = W) := fun W => giveUp_any 0 W (by omega)
      have HFo := Lib.hid hform
      rw [hw0] at hb0 hB
      have hBc0 := (hb0.cell (p := ⟨B, 0, none⟩) hBl).trans hBc
      have HI := Lib.hid hin
      have HW := Lib.hid hw0
      clear hform hin hw0
      go_enter Tryz.func126, Tryz.ntmps126
      go_wp2_with fail
      rw [HW.out]
      refine (HF.out _).mono ?_
      rintro e w1 ⟨rfl, hb1⟩
      go_wp2_with fail
      refine (hG.out _).mono ?_
      rintro e w2 ⟨rfl, rfl⟩
      have hs1 := hb1.size
      have hB1 := hB.from_ hb1 (by omega)
      have hx2 := hB1.c2
      have hb01 : Below w.heap.size w w2 := hb0.trans (hb1.mono (by omega))
      have hBc1 := (hb01.cell (p := ⟨B, 0, none⟩) hBl).trans hBc
      go_wp2_with fail
      go_loopw [14] (fun i wr => ∃ k : Nat, k ≤ xs.length ∧ i = .int .i64 k ∧ M.formIs (dd + 1) (xs.take k) = 0 ∧ Below w2.heap.size w2 wr) (fun i _ => xs.length - (intOf i).toNat)
      case atStart => exact ⟨0, by omega, rfl, by simp [M.formIs], Below.refl _ _⟩
      case round =>
        obtain ⟨k, hk, rfl, hf, hW⟩ := hrel
        have hbW : Below w.heap.size w wr := hb01.trans (hW.mono (by omega))
        have hLr := hL.from_ hbW
        have hsz := hW.size
        have hBw : B < wr.heap.size := by omega
        have hBr := (hbW.cell (p := ⟨B, 0, none⟩) hBl).trans hBc
        by_cases hlt : k < xs.length
        · obtain ⟨b, o, cp, l', d', ys, u, hve, hbn, hxk, e0, e1, e2, hLu⟩ := hLr.at_ hlt
          obtain ⟨rfl, rfl⟩ : a = some ⟨b, o, none⟩ ∧ cap = cp := by cases hve; exact ⟨rfl, rfl⟩
          clear hve
          obtain ⟨a2, cap2, hu, _, _⟩ := hLu.slice
          subst hu
          have hk2 : k < 4000 := by omega
          have hd12 := HI.out trivial (by omega)
          have hnx := M.formIs_next hxk hf
          have hfi := M.formIs_first hxk hf
          have hcx := M.cntI_part (List.mem_of_getElem? hxk)
          rw [M.cntI] at hcx
          have hsx := size_get hxk
          rw [M.It.mk.sizeOf_spec] at hsx
          have ih1 : ∀ W, Below wr.heap.size wr W → Calls Tryz.prog 126 #[iv l' d' (.slice a2 ys.length cap2), .int .i64 ((dd : Int) + 1), .pointer (some ⟨B, 0, none⟩)] W fun e w' => e = orPan (M.formI (dd + 1) (.mk l' d' ys)) ∧ Below W.heap.size W w' :=
            fun W hb => ih l' d' ys _ W (dd + 1) (by omega) ((hLu.from_ (hb.mono (by omega))).mono (by have := hb.size; omega)) (by omega) (by omega) (by have := hb.size; omega) ((hb.cell (p := ⟨B, 0, none⟩) (by simp; omega)).trans hBr)
          generalize M.formI (dd + 1) (M.It.mk l' d' ys) = q at *
          have HFi := Lib.hid hfi
          have HN := Lib.hid hnx
          have IH := Lib.hid ih1
          clear hfi hnx ih1 ih hf hx2 hBc0 hBc1 hBc
          have hbn1 : Below wr.heap.size wr (wr.alloc (.cells #[.bool l', .string ⟨d'.toArray⟩, .slice a2 ys.length cap2] 45)) := by (repeat (first | exact Below.refl _ _ | refine Below.drew ?_ | refine Below.alloc ?_ (by first | omega | (simp; omega) | simp) _ | refine Below.setCell ?_ (by first | omega | (simp; omega) | simp) _))
          go_wp2_with fail
          refine (IH.out _ hbn1).mono ?_
          rintro e w3 ⟨rfl, hb3⟩
          have hw3 : Below wr.heap.size wr w3 := hbn1.trans (hb3.mono (by simp))
          by_cases hq : q = 0
          · subst hq
            rw [orPan_0]
            go_wp2_with fail
            go_roundw
            case rel => exact ⟨k + 1, by omega, by simp, HN.out, hW.trans (hw3.mono hsz)⟩
            case measure => simp [intOf]; omega
          · have e3 := HFi.out hq
            have E3 : Hid (orPan (M.formI dd (.mk l d xs)) = pan q) := by show _ = _; rw [HFo.out, e3, orPan_ne hq]
            rw [orPan_ne hq]
            clear e3
            go_wp2_with fail
            exact ⟨rfl, by rw [E3.out], hbW.trans (hw3.mono (by omega))⟩
        · obtain rfl : k = xs.length := by omega
          rw [List.take_length] at hf
          have hk2 : xs.length ≤ 4000 := by omega
          have E3 : Hid (orPan (M.formI dd (.mk l d xs)) = .returned (.tuple #[])) := by show _ = _; rw [HFo.out, hf]; rfl
          clear hf
          go_wp2_with fail
          go_end0
          exact ⟨E3.out.symm, hbW⟩
    · rw [if_pos hq] at hform
      have hG : Hid (∀ W, Calls Tryz.prog 127 #[.int .i64 (q : Nat)] W fun e w' => e = pan q ∧ w' = W) := fun W => by have := giveUp_any q W (by omega); rwa [orPan_ne hq] at this
      rw [hform, orPan_ne hq]
      clear hin hform
      rw [hw0] at hb0
      have HW := Lib.hid hw0
      clear hw0
      go_enter Tryz.func126, Tryz.ntmps126
      go_wp2_with fail
      rw [HW.out]
      refine (HF.out _).mono ?_
      rintro e w1 ⟨rfl, hb1⟩
      go_wp2_with fail
      refine (hG.out _).mono ?_
      rintro e w2 ⟨rfl, rfl⟩
      go_wp2_with fail
      exact ⟨rfl, rfl, hb0.trans (hb1.mono (by omega))⟩
end Go.Proofs.YtihiacbhdcahkaaGreatDoor
