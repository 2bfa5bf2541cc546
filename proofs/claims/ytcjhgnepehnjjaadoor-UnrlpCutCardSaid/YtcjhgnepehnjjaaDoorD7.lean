/- The three functions that Encode hands to fold. -/
import Derived.Test.YtcjhgnepehnjjaaDoorD1
import Derived.Test.YtcjhgnepehnjjaaDoorD6
namespace Go.Proofs.YtcjhgnepehnjjaaDoor
open Go Go.RowKit

def bytV : M.It ⊕ List M.It → List UInt8 | .inl x => M.bytesI x | .inr xs => M.bytesIs xs
def OwV : Nat → Value → World → (M.It ⊕ List M.It) → Prop := fun B v w y => Ow B (bytV y) v w

theorem enc_f1 (d : List UInt8) (ys : List M.It) (w : World) (hok : (M.bytesI (.mk false d ys)).length ≤ 65536) :
    Calls Tryd.prog 17 #[.string ⟨d.toArray⟩] w fun e w' => (∃ v, e = .returned v ∧ OwV w.heap.size v w' (.inl (.mk false d ys))) ∧ Below w.heap.size w w' := by
  rw [bytes_hdB, List.length_append] at hok
  have HH := Lib.hid (headOfBytes_any d w (by omega))
  unfold OwV bytV
  simp only [bytes_hdB]
  generalize hdB d = hd at *
  go_enter Tryd.func17, Tryd.ntmps17
  go_wp2_with fail
  refine HH.out.mono ?_
  rintro e w1 ⟨⟨u, rfl, hu⟩, hb1⟩
  go_wp2_with (at_builtin; refine wpList_append_ow_str _ rfl _ _ rfl w.heap.size hd d u rfl rfl hu (by omega) hb1.size ?_; intro v w2 ho2 hb2)
  go_ret
  exact ⟨⟨v, rfl, ho2⟩, hb1.trans hb2⟩

theorem enc_f2 (xs : List M.It) (x : M.It) (B C : Nat) (v u : Value) (w : World) (hok : (M.bytesIs (xs ++ [x])).length ≤ 65536) (hv : OwV B v w (.inr xs)) (hu : OwV C u w (.inl x)) (hB : B ≤ w.heap.size) :
    Calls Tryd.prog 19 #[v, u] w fun e w' => (∃ v', e = .returned v' ∧ OwV B v' w' (.inr (xs ++ [x]))) ∧ w.grownBy w' v.ownBlock := by
  have e : M.bytesIs (xs ++ [x]) = M.bytesIs xs ++ M.bytesI x := by rw [M.bytesIs_append]; simp [M.bytesIs]
  rw [e, List.length_append] at hok
  unfold OwV bytV at *
  simp only [e] at *
  generalize M.bytesIs xs = m at *
  generalize M.bytesI x = k at *
  clear e
  go_enter Tryd.func19, Tryd.ntmps19
  go_wp2_with (at_builtin; refine wpList_append_ow _ rfl _ _ rfl B m k v u rfl rfl hv hu.sr (by omega) hB ?_; intro v2 w2 ho2 hb2 hg2)
  go_ret
  exact ⟨⟨v2, rfl, ho2⟩, hg2⟩

theorem enc_f3 (d : List UInt8) (xs : List M.It) (B : Nat) (v : Value) (w : World) (hok : (M.bytesI (.mk true d xs)).length ≤ 65536) (hv : OwV B v w (.inr xs)) :
    Calls Tryd.prog 20 #[v] w fun e w' => (∃ v', e = .returned v' ∧ OwV w.heap.size v' w' (.inl (.mk true d xs))) ∧ Below w.heap.size w w' := by
  rw [M.bytesI, List.length_append] at hok
  have HH := Lib.hid (head_any (M.bytesIs xs).length 192 w (by omega) (by omega))
  unfold OwV bytV at *
  simp only [M.bytesI] at *
  generalize M.bytesIs xs = m at *
  generalize M.hdL m.length 192 = hd at *
  obtain ⟨a, cap, hvl⟩ := hv.len
  subst hvl
  go_enter Tryd.func20, Tryd.ntmps20
  go_wp2_with fail
  refine HH.out.mono ?_
  rintro e w1 ⟨⟨u, rfl, hu⟩, hb1⟩
  have hv1 := (hv.from_ hb1).sr
  go_wp2_with (at_builtin; refine wpList_append_ow _ rfl _ _ rfl w.heap.size hd m u _ rfl rfl hu hv1 (by omega) hb1.size ?_; intro v2 w2 ho2 hb2 hg2)
  go_ret
  exact ⟨⟨v2, rfl, ho2⟩, hb1.trans hb2⟩

theorem enc_folds : Folds 17 19 20 (fun x => (M.bytesI x).length ≤ 65536) (fun xs => (M.bytesIs xs).length ≤ 65536) OwV OwV (.slice none 0 0) where
  e1 := enters_of Tryd.func17 (by kernel_rfl) rfl
  e2 := enters_of Tryd.func19 (by kernel_rfl) rfl
  e3 := enters_of Tryd.func20 (by kernel_rfl) rfl
  keepA := fun _ _ _ _ _ h hb => Ow.from_ h hb
  monoR := fun _ _ _ _ _ h hb => Ow.mono h hb
  own := fun _ _ _ _ h k e => World.ownsRow.lt h k e
  zero := fun _ _ => Ow.nil _ _
  f1 := fun d ys w hok => enc_f1 d ys w hok
  f2 := fun xs x B C v u w hok hv hu hB => enc_f2 xs x B C v u w hok hv hu hB
  f3 := fun d xs B v w hok hv => enc_f3 d xs B v w hok hv
  part := fun d xs k x hok h => by
    rw [M.bytesI, List.length_append] at hok
    have h1 := M.part_size xs x (List.mem_of_getElem? h)
    have h2 := M.bytesIs_part xs (k + 1)
    exact ⟨by omega, by omega⟩
end Go.Proofs.YtcjhgnepehnjjaaDoor
