/- The reference's Texts of layer 6, walked. -/
import Derived.Test.YtebkmlbpngpmdaaDoorG10g
namespace Go.Proofs.YtebkmlbpngpmdaaDoor
open Go Go.RowKit

theorem tl_next {ls : List (List UInt8)} {k : Nat} {s : List UInt8} (h : ls[k]? = some s) : tl (ls.take (k + 1)) = tl (ls.take k) ++ [(M.textI s, .slice none 0 0)] := by
  unfold tl
  rw [List.take_add_one, h, List.map_append]
  rfl
theorem tl_items (ls : List (List UInt8)) : (tl ls).map (·.1) = ls.map M.textI := by
  unfold tl
  rw [List.map_map]
  rfl
theorem tl_length (ls : List (List UInt8)) : (tl ls).length = ls.length := List.length_map ..

set_option maxRecDepth 100000 in
set_option maxHeartbeats 8000000 in
theorem rf_texts (ls : List (List UInt8)) (a : Option Addr) (cap : Nat) (w : World) (hL : Ts w w.heap.size ls (.slice a ls.length cap)) (hl : ls.length ≤ 600) :
    Calls Tryd.prog 17 #[.slice a ls.length cap] w fun e w' => (∃ a' cap', e = .returned (iv true [] (.slice a' ls.length cap')) ∧ Lay w' w'.heap.size (ls.map M.textI) (.slice a' ls.length cap')) ∧ Below w.heap.size w w' := by
  obtain ⟨wx, hwx⟩ : ∃ wx, w.alloc (.cells #[.bool false, .string ⟨#[]⟩, .slice none 0 0] 30) = wx := ⟨_, rfl⟩
  have hbx : Below w.heap.size w wx := by rw [← hwx]; (repeat (first | exact Below.refl _ _ | refine Below.drew ?_ | refine Below.alloc ?_ (by first | omega | (simp; omega) | simp) _ | refine Below.setCell ?_ (by first | omega | (simp; omega) | simp) _))
  have hzx : wx.heap.size = w.heap.size + 1 := by rw [← hwx]; simp
  have hrowx : wx.heap[w.heap.size]? = some (.cells #[.bool false, .string ⟨#[]⟩, .slice none 0 0] 30 (0, 0)) := by rw [← hwx]; exact heap_alloc_new w _
  obtain ⟨w0, hw0⟩ : ∃ w0, wx.alloc (.cells #[.bool true, .string ⟨#[]⟩, .slice none 0 0] 30) = w0 := ⟨_, rfl⟩
  have hb0 : Below wx.heap.size wx w0 := by rw [← hw0]; (repeat (first | exact Below.refl _ _ | refine Below.drew ?_ | refine Below.alloc ?_ (by first | omega | (simp; omega) | simp) _ | refine Below.setCell ?_ (by first | omega | (simp; omega) | simp) _))
  have hz0 : w0.heap.size = w.heap.size + 2 := by rw [← hw0]; simp; omega
  have hrow0 : w0.heap[w.heap.size]? = _ := (hb0.block _ (by omega)).trans hrowx
  have hbox0 : w0.heap[w.heap.size + 1]? = some (.cells #[.bool true, .string ⟨#[]⟩, .slice none 0 0] 30 (0, 0)) := by rw [← hw0, ← hzx]; exact heap_alloc_new wx _
  have HX := Lib.hid hwx
  have HW := Lib.hid hw0
  have T0 : TB (w.heap.size + 2) (w.heap.size + 1) w0 w0 [] (.slice none 0 0) := ⟨hbox0, ⟨⟨by rfl, .inl ⟨rfl, rfl⟩⟩, fun p hp => by cases hp⟩, Below.refl _ _⟩
  clear hw0 hwx
  go_enter Tryd.func17, Tryd.ntmps17
  go_wp2_with fail
  rw [HX.out, HW.out]
  go_loopw [4] (fun i wr => ∃ (k : Nat) (v : Value), k ≤ ls.length ∧ i = .int .i64 k ∧ TB (w.heap.size + 2) (w.heap.size + 1) w0 wr (tl (ls.take k)) v ∧ w0.heap.size ≤ wr.heap.size) (fun i _ => ls.length - (intOf i).toNat)
  case atStart => exact ⟨0, _, by omega, rfl, T0, Nat.le_refl _⟩
  case round =>
    obtain ⟨k, v, hk, rfl, hT, hsz⟩ := hrel
    have hwr : Below w.heap.size w wr := hbx.trans ((hb0.mono (by omega)).trans (hT.below.mono (by omega)))
    by_cases hlt : k < ls.length
    · have hk2 : k < 600 := by omega
      obtain ⟨b, o, s, rfl, hb, hs, cs⟩ := (hL.from_ hwr).at_ hlt
      have hlen : (tl (ls.take k)).length ≤ 600 := by rw [tl_length, List.length_take]; omega
      have hnx := Lib.hid (tl_next hs)
      go_wp2_with fail
      refine wp_mono' (texts_reg (w.heap.size + 1) b o (w.heap.size + 2) k w0.heap.size w0 wr (tl (ls.take k)) v _ _ _ _ _ _ _ _ _ _ _ _ _ _ _ _ _ _ _ _ _ s ls.length cap _ rfl hlt hk2 (by kernel_rfl) hT (by omega) (by omega) hlen (by omega) hsz cs) ?_
      rintro a' U ⟨v', z12, z13, z14, z15, z16, z17, z18, z19, z20, z21, rfl, hT', hm⟩
      rw [← hnx.out] at hT'
      go_wp2_with fail
      go_roundw
      case rel => exact ⟨k + 1, v', by omega, by simp, hT', hm⟩
      case measure => simp [intOf]; omega
    · obtain rfl : k = ls.length := by omega
      rw [List.take_length] at hT
      obtain ⟨va, vc, hv⟩ := hT.row.slice
      rw [tl_length] at hv
      subst hv
      have c0 : wr.cell? ⟨w.heap.size + 1, 0, none⟩ = some (.bool true) := by simp [World.cell?, hT.box]
      have c1 : wr.cell? ⟨w.heap.size + 1, 1, none⟩ = some (.string ⟨#[]⟩) := by simp [World.cell?, hT.box]
      have c2 : wr.cell? ⟨w.heap.size + 1, 2, none⟩ = some (.slice va ls.length vc) := by simp [World.cell?, hT.box]
      have hrow := (hT.below.block w.heap.size (by omega)).trans hrow0
      obtain ⟨⟨_, z0⟩, ⟨_, z1⟩, ⟨_, z2⟩, y0, y1, y2⟩ := cells_three hrow
      go_wp2_with fail
      have hF := hT.row.fresh
      rw [tl_items] at hF
      refine rf_post rfl w wr _ true [] (.slice va ls.length vc) w.heap.size (Nat.le_refl _) hwr _ _ _ hrow _ rfl (fun Z hZ hz ho => ⟨⟨va, vc, rfl, ?_⟩, hZ⟩)
      exact (LayS.keep hF (T := fun b => b < Z.heap.size) (W := Z) fun b ⟨h1, h2⟩ => ⟨by omega, ho b (by omega)⟩).lay fun b h => h
end Go.Proofs.YtebkmlbpngpmdaaDoor
