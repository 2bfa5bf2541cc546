/- Contracts of word.Bytes and word.Parse. -/
import Derived.Test.YtebkmlbpngpmdaaDoorW8g
import Derived.Test.YtebkmlbpngpmdaaDoorSh
import Derived.Test.YtebkmlbpngpmdaaDoorA0g
namespace Go.Proofs.YtebkmlbpngpmdaaDoor
open Go Go.RowKit Go.Shelf

theorem trimLeft_any (l : List UInt8) (w : World) :
    Calls Tryd.prog 60 #[.string ⟨l.toArray⟩, .string ⟨#[0]⟩] w fun e w' => e = .returned (.string ⟨(M.tr l).toArray⟩) ∧ w = w' :=
  (Any.strings_TrimLeft_one lays161 ⟨l.toArray⟩ 0 (by decide) w).mono fun _ _ ⟨h1, h2⟩ => ⟨h1, h2.symm⟩

theorem repeat_any (c : Nat) (w : World) (h : c ≤ 32) :
    Calls Tryd.prog 68 #[.string ⟨#[0]⟩, .int .i64 c] w fun e w' => e = .returned (.string ⟨(List.replicate c (0 : UInt8)).toArray⟩) ∧ Below w.heap.size w w' := by
  have e : Lib.repeatL (⟨#[0]⟩ : ByteArray).data.toList c = List.replicate c (0 : UInt8) := by
    have := Lib.repeatL_replicate 0 1 c
    rw [Nat.mul_one] at this
    exact this
  have := Any.strings_Repeat lays105 Builder_Extra_105 ⟨#[0]⟩ c w (by omega) (by show 1 * c ≤ _; omega)
  rw [e] at this
  exact this

theorem prefix_any (l : List UInt8) (b : Bool) (w : World) (h : Lib.hasPrefix l [0] = b) :
    Calls Tryd.prog 66 #[.string ⟨l.toArray⟩, .string ⟨#[0]⟩] w fun e w' => e = .returned (.bool b) ∧ w = w' :=
  (Any.strings_HasPrefix lays99 ⟨l.toArray⟩ ⟨#[0]⟩ w).mono fun _ _ ⟨h1, h2⟩ => ⟨h1.trans (congrArg (fun b => Ending.returned (.bool b)) h), h2.symm⟩

theorem bytes_any (N : Nat) (w : World) (hN : M.In N) :
    Calls Tryd.prog 33 #[wn N] w fun e w' => e = .returned (.string ⟨(M.tr (M.f32 N)).toArray⟩) ∧ Below w.heap.size w w' := by
  go_enter Tryd.func33, Tryd.ntmps33
  go_wp2_with fail
  refine (fixed_any N _ hN).mono ?_
  rintro e w1 ⟨rfl, hb⟩
  go_wp2_with fail
  refine (trimLeft_any (M.f32 N) _).mono ?_
  rintro e w2 ⟨rfl, rfl⟩
  go_wp2_with fail
  go_ret
  refine ⟨rfl, Below.trans ?_ (hb.mono (by first | omega | (simp; omega) | simp))⟩
  (repeat (first | exact Below.refl _ _ | refine Below.drew ?_ | refine Below.alloc ?_ (by first | omega | (simp; omega) | simp) _ | refine Below.setCell ?_ (by first | omega | (simp; omega) | simp) _))

theorem parse_long (l : List UInt8) (w : World) (h : 32 < l.length) :
    Calls Tryd.prog 40 #[.string ⟨l.toArray⟩] w fun e w' => e = .returned (.tuple #[wd 0 0 0 0, .int .i64 5]) ∧ Below w.heap.size w w' := by
  go_enter Tryd.func40, Tryd.ntmps40
  go_wp2_with fail
  refine bodyPost_ret (v := .tuple #[wd 0 0 0 0, .int .i64 5]) (by simp [results, Tryd.results40, go_sem]) rfl ⟨rfl, ?_⟩
  (repeat (first | exact Below.refl _ _ | refine Below.drew ?_ | refine Below.alloc ?_ (by first | omega | (simp; omega) | simp) _ | refine Below.setCell ?_ (by first | omega | (simp; omega) | simp) _))

theorem parse_spare (l : List UInt8) (w : World) (h : l.length ≤ 32) (hp : Hid (Lib.hasPrefix l [0] = true)) :
    Calls Tryd.prog 40 #[.string ⟨l.toArray⟩] w fun e w' => e = .returned (.tuple #[wd 0 0 0 0, .int .i64 8]) ∧ Below w.heap.size w w' := by
  go_enter Tryd.func40, Tryd.ntmps40
  go_wp2_with fail
  refine (prefix_any l true _ hp.out).mono ?_
  rintro e w1 ⟨rfl, rfl⟩
  go_wp2_with fail
  refine bodyPost_ret (v := .tuple #[wd 0 0 0 0, .int .i64 8]) (by simp [results, Tryd.results40, go_sem]) rfl ⟨rfl, ?_⟩
  (repeat (first | exact Below.refl _ _ | refine Below.drew ?_ | refine Below.alloc ?_ (by first | omega | (simp; omega) | simp) _ | refine Below.setCell ?_ (by first | omega | (simp; omega) | simp) _))

theorem parse_ok (l : List UInt8) (w : World) (h : l.length ≤ 32) (hp : Hid (Lib.hasPrefix l [0] = false)) :
    Calls Tryd.prog 40 #[.string ⟨l.toArray⟩] w fun e w' => e = .returned (.tuple #[wn (M.dg l), .int .i64 0]) ∧ Below w.heap.size w w' := by
  go_enter Tryd.func40, Tryd.ntmps40
  go_wp2_with fail
  refine (prefix_any l false _ hp.out).mono ?_
  rintro e w1 ⟨rfl, rfl⟩
  go_wp2_with fail
  rw [show (32 : Int) - (l.length : Int) = ((32 - l.length : Nat) : Int) from by omega]
  refine (repeat_any (32 - l.length) _ (by omega)).mono ?_
  rintro e w2 ⟨rfl, hb2⟩
  obtain ⟨hce, hfr⟩ := bcell hb2
  generalize hz : List.replicate (32 - l.length) (0 : UInt8) = zs
  have hz1 : zs.length ≤ 32 := by rw [← hz]; simp
  have hno : ¬ 9223372036854775807 < zs.length + l.length := by omega
  have HZ := Lib.hid hz
  clear hz
  go_wp2_with fail
  rw [cat_eq]
  refine (unfixed_any (zs ++ l) _ (by rw [← HZ.out]; simp; omega)).mono ?_
  rintro e w3 ⟨rfl, hb3⟩
  rw [show M.dg (zs ++ l) = M.dg l from by rw [← HZ.out]; exact M.dg_zeros _ _]
  have hb4 := Below.trans (hb2.mono (B' := (w.alloc (Obj.cells #[.int .u64 0, .int .u64 0, .int .u64 0, .int .u64 0] 24)).heap.size) (Nat.le_refl _)) (hb3.mono hb2.size)
  clear hce hfr hb2 hb3
  obtain ⟨hce, hfr⟩ := bcell hb4
  go_wp2_with fail
  refine bodyPost_ret (v := .tuple #[wn (M.dg l), .int .i64 0]) (by simp [results, Tryd.results40, go_sem, hce]) rfl ⟨rfl, ?_⟩
  refine Below.setCell (Below.setCell (Below.setCell (Below.setCell (Below.trans ?_ (hb4.mono (by first | omega | (simp; omega) | simp))) (by first | omega | (simp; omega) | simp) _) (by first | omega | (simp; omega) | simp) _) (by first | omega | (simp; omega) | simp) _) (by first | omega | (simp; omega) | simp) _
  (repeat (first | exact Below.refl _ _ | refine Below.drew ?_ | refine Below.alloc ?_ (by first | omega | (simp; omega) | simp) _ | refine Below.setCell ?_ (by first | omega | (simp; omega) | simp) _))
end Go.Proofs.YtebkmlbpngpmdaaDoor
