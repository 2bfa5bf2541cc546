/- The statements' own example holds: works answers true. -/
import Derived.Test.YtcnngpmganhjoaaDoorK3
import Derived.Deep.DeepCutAuto
import Derived.Deep.RegionWith
namespace Go.Proofs.YtcnngpmganhjoaaDoor
open Go Go.RowKit

theorem conv2 (x y : UInt8) (W : World) : (convert 39 9 (.slice (some ⟨W.heap.size, 0, none⟩) 2 2)).run Tryd.prog (W.alloc (.cells #[.int .u8 (x.toNat : Int), .int .u8 (y.toNat : Int)] 5)) = .ok (.string ⟨#[x, y]⟩) (W.alloc (.cells #[.int .u8 (x.toNat : Int), .int .u8 (y.toNat : Int)] 5)) := by
  refine run_convert_bytes_back (W.alloc (.cells #[.int .u8 (x.toNat : Int), .int .u8 (y.toNat : Int)] 5)) 39 9 5 ⟨W.heap.size, 0, none⟩ 2 [x, y] Tryd.underlying39 Tryd.underlying5 Tryd.underlying9 ?_
  intro j hj
  have : j = 0 ∨ j = 1 := by simp at hj; omega
  rcases this with rfl | rfl <;> simp [Addr.add, go_sem]

theorem r9_false : Array.replicate 69 false = #[false, false, false, false, false, false, false, false, false, false, false, false, false, false, false, false, false, false, false, false, false, false, false, false, false, false, false, false, false, false, false, false, false, false, false, false, false, false, false, false, false, false, false, false, false, false, false, false, false, false, false, false, false, false, false, false, false, false, false, false, false, false, false, false, false, false, false, false, false] := by kernel_rfl
theorem r9_size {ops : Array Oper} (hcode : Tryd.f9.body.bind (regAt 9) = some (.region 9 ops true)) : ops.size = 69 := by
  have h : (Tryd.f9.body.bind (regAt 9)).map (fun c => match c with | .region _ o _ => o.size | _ => 0) = some 69 := by kernel_rfl
  rw [hcode] at h
  exact Option.some.inj h

theorem r9_wp (w W : World) (b1 b2 b6 : Nat) (x4 x8 x10 x14 x16 x17 x18 x19 x20 x21 x22 x23 x24 x25 x26 x27 x28 x29 x30 x31 x32 x33 x34 x35 x36 x37 x38 x39 x40 x41 x42 x43 x44 x45 x46 x47 x48 x49 x50 x51 x52 x53 x54 x55 x56 x57 x58 x59 x60 x61 x62 x63 x64 x65 x66 x67 x68 x69 x70 x71 x72 x73 x74 x75 x76 x77 x78 x79 x80 x81 x82 x83 x84 x85 x86 x87 x88 x89 x90 x91 x92 x93 x94 x95 x96 x97 x98 x99 x100 x101 x102 x103 x104 x105 x106 x107 x108 x109 x110 x111 x112 x113 x114 x115 x116 x117 x118 x119 x120 x121 x122 x123 x124 : Value) (ops : Array Oper) (hcode : Tryd.f9.body.bind (regAt 9) = some (.region 9 ops true)) (hS : S9 w b1 b2 b6 W) :
    (Code.region 9 ops true).wp Tryd.prog (R9 w b1 b2 b6) { tmps := #[.bool false, .pointer (some ⟨b1, 0, none⟩), .pointer (some ⟨b2, 0, none⟩), .int .i64 0, x4, .int .i64 0, .pointer (some ⟨b6, 0, none⟩), .int .i64 0, x8, .int .i64 8, x10, .int .i64 6, .int .u64 18446744073709551615, .bool true, x14, .bool false, x16, x17, x18, x19, x20, x21, x22, x23, x24, x25, x26, x27, x28, x29, x30, x31, x32, x33, x34, x35, x36, x37, x38, x39, x40, x41, x42, x43, x44, x45, x46, x47, x48, x49, x50, x51, x52, x53, x54, x55, x56, x57, x58, x59, x60, x61, x62, x63, x64, x65, x66, x67, x68, x69, x70, x71, x72, x73, x74, x75, x76, x77, x78, x79, x80, x81, x82, x83, x84, x85, x86, x87, x88, x89, x90, x91, x92, x93, x94, x95, x96, x97, x98, x99, x100, x101, x102, x103, x104, x105, x106, x107, x108, x109, x110, x111, x112, x113, x114, x115, x116, x117, x118, x119, x120, x121, x122, x123, x124], defers := [] } W := by
  refine wp_region_held_drew (S := S9 w b1 b2 b6) (by kernel_rfl) hS.drew (fun h => ?_)
  rw [r9_size hcode, r9_false]
  exact r9_all w _ b1 b2 b6 x4 x8 x10 x14 x16 x17 x18 x19 x20 x21 x22 x23 x24 x25 x26 x27 x28 x29 x30 x31 x32 x33 x34 x35 x36 x37 x38 x39 x40 x41 x42 x43 x44 x45 x46 x47 x48 x49 x50 x51 x52 x53 x54 x55 x56 x57 x58 x59 x60 x61 x62 x63 x64 x65 x66 x67 x68 x69 x70 x71 x72 x73 x74 x75 x76 x77 x78 x79 x80 x81 x82 x83 x84 x85 x86 x87 x88 x89 x90 x91 x92 x93 x94 x95 x96 x97 x98 x99 x100 x101 x102 x103 x104 x105 x106 x107 x108 x109 x110 x111 x112 x113 x114 x115 x116 x117 x118 x119 x120 x121 x122 x123 x124 ops hcode h

set_option maxRecDepth 100000 in
set_option maxHeartbeats 4000000 in
theorem works_any (w : World) : Calls Tryd.prog 9 #[] w fun e w' => e = .returned (.bool true) ∧ Below w.heap.size w w' := by
  go_enter Tryd.func9, Tryd.ntmps9
  go_wp2_with fail
  refine (of_any 258 _).mono ?_
  rintro e w1 ⟨rfl, hb1⟩
  go_upto_region 2 with fail
  have H1 := W4.new w1 258 0 0 0 24
  have B1 : Below w.heap.size w (w1.alloc (.cells #[.int .u64 258, .int .u64 0, .int .u64 0, .int .u64 0] 24)) := (hb1.alloc hb1.size _)
  generalize w1.alloc (.cells #[.int .u64 258, .int .u64 0, .int .u64 0, .int .u64 0] 24) = W1 at H1 B1 ⊢
  generalize w1.heap.size = b1 at H1 ⊢
  clear hb1
  obtain ⟨p0, p1, p2, p3, hlt⟩ := H1
  go_cut [2, 3] (fun s2 s3 W => ∃ b2 : Nat, s2 = .pointer (some ⟨b2, 0, none⟩) ∧ s3 = .int .i64 0 ∧ W4 W b2 257 1 0 0 ∧ W4 W b1 258 0 0 0 ∧ Below w.heap.size w W)
  case first =>
    go_region_with (first | (go_at_call 18; refine (of_exact 18446744073709551615 _).mono ?_; rintro e w2 ⟨rfl, rfl⟩) | (go_at_call 10; refine (ex_add _).mono ?_; rintro e w3 ⟨rfl, hb3⟩; have hs3 := hb3.size; (try simp at hs3); obtain ⟨hce3, hfr3⟩ := bcell hb3))
    all_goals
      have hB1 := B1.size
      have hB3 := hb3.size
      go_wp2_with fail
      go_meet
      refine ⟨_, rfl, rfl, ?_, W4.below ⟨p0, p1, p2, p3, hlt⟩ ?_, B1.trans (Below.mono (B := W1.heap.size) ?_ B1.size)⟩
      · first | exact W4.new _ _ _ _ _ _ | (refine W4.put (x0 := 0) (x1 := 0) (x2 := 0) (x3 := 0) ?_; refine W4.below ?_ hb3; exact ⟨by simp [go_sem], by simp [go_sem], by simp [go_sem], by simp [go_sem], by simp <;> omega⟩)
      · (repeat (first | exact Below.refl _ _ | refine Below.drew ?_ | refine Below.setCell ?_ (by first | omega | (simp; done) | (simp; omega) | (simp at hB3 ⊢; omega) | (simp at hB3; omega)) _ | refine Below.alloc ?_ (by first | omega | (simp; done) | (simp; omega) | (simp at hB3 ⊢; omega) | (simp at hB3; omega)) _ | refine Below.trans ?_ (hb3.mono (by first | omega | (simp; done) | (simp; omega) | (simp at hB3 ⊢; omega) | (simp at hB3; omega)))))
      · (repeat (first | exact Below.refl _ _ | refine Below.drew ?_ | refine Below.setCell ?_ (by first | omega | (simp; done) | (simp; omega) | (simp at hB3 ⊢; omega) | (simp at hB3; omega)) _ | refine Below.alloc ?_ (by first | omega | (simp; done) | (simp; omega) | (simp at hB3 ⊢; omega) | (simp at hB3; omega)) _ | refine Below.trans ?_ (hb3.mono (by first | omega | (simp; done) | (simp; omega) | (simp at hB3 ⊢; omega) | (simp at hB3; omega)))))
  case rest =>
    obtain ⟨b2, rfl, rfl, H2, H1, B2⟩ := hcut
    clear p0 p1 p2 p3 hlt B1
    obtain ⟨p0, p1, p2, p3, hlt⟩ := H1
    obtain ⟨q0, q1, q2, q3, hlq⟩ := H2
    go_wp2_with fail
    refine (ex_sub _).mono ?_
    rintro e w4 ⟨rfl, hb4⟩
    go_upto_region 4 with fail
    have H1 : W4 w4 b1 258 0 0 0 := W4.below ⟨p0, p1, p2, p3, hlt⟩ hb4
    have H2 : W4 w4 b2 257 1 0 0 := W4.below ⟨q0, q1, q2, q3, hlq⟩ hb4
    have B4 := B2.trans (hb4.mono B2.size)
    have H4 := W4.new w4 18446744073709551615 0 0 0 24
    have A4 : Below w4.heap.size w4 (w4.alloc (.cells #[.int .u64 18446744073709551615, .int .u64 0, .int .u64 0, .int .u64 0] 24)) := (Below.refl _ _).alloc (Nat.le_refl _) _
    replace H1 := H1.below A4
    replace H2 := H2.below A4
    replace B4 := B4.trans (A4.mono B4.size)
    clear p0 p1 p2 p3 hlt q0 q1 q2 q3 hlq hb4 B2 A4
    generalize w4.alloc (.cells #[.int .u64 18446744073709551615, .int .u64 0, .int .u64 0, .int .u64 0] 24) = W5 at H1 H2 H4 B4 ⊢
    generalize w4.heap.size = b4 at H4 ⊢
    have cv1 : ∀ W : World, (convert 39 9 (.slice (some ⟨W.heap.size, 0, none⟩) 2 2)).run Tryd.prog (W.alloc (.cells #[.int .u8 1, .int .u8 2] 5)) = .ok (.string ⟨#[1, 2]⟩) (W.alloc (.cells #[.int .u8 1, .int .u8 2] 5)) := conv2 1 2
    have cv2 : ∀ W : World, (convert 39 9 (.slice (some ⟨W.heap.size, 0, none⟩) 2 2)).run Tryd.prog (W.alloc (.cells #[.int .u8 0, .int .u8 2] 5)) = .ok (.string ⟨#[0, 2]⟩) (W.alloc (.cells #[.int .u8 0, .int .u8 2] 5)) := conv2 0 2
    go_wp2_with fail
    refine (ex_parse _).mono ?_
    rintro e w6 ⟨rfl, hb6⟩
    go_upto_region 5 with fail
    have S6 : Below W5.heap.size W5 (w6.alloc (.cells #[.int .u64 258, .int .u64 0, .int .u64 0, .int .u64 0] 24)) := (((Below.refl _ W5).alloc (Nat.le_refl _) _).trans (hb6.mono (by simp))).alloc (by have := hb6.size; simp at this; omega) _
    have H6 := W4.new w6 258 0 0 0 24
    replace H1 := H1.below S6
    replace H2 := H2.below S6
    replace H4 := H4.below S6
    replace B4 := B4.trans (S6.mono B4.size)
    clear hb6 S6
    generalize w6.alloc (.cells #[.int .u64 258, .int .u64 0, .int .u64 0, .int .u64 0] 24) = W6 at H1 H2 H4 H6 B4 ⊢
    generalize w6.heap.size = b6 at H6 ⊢
    go_wp2_with fail
    refine (ex_spare _).mono ?_
    rintro e w7 ⟨rfl, hb7⟩
    go_upto_region 6 with fail
    have S7 : Below W6.heap.size W6 (w7.alloc (.cells #[.int .u64 0, .int .u64 0, .int .u64 0, .int .u64 0] 24)) := (((Below.refl _ W6).alloc (Nat.le_refl _) _).trans (hb7.mono (by simp))).alloc (by have := hb7.size; simp at this; omega) _
    replace H1 := H1.below S7
    replace H2 := H2.below S7
    replace H4 := H4.below S7
    replace H6 := H6.below S7
    replace B4 := B4.trans (S7.mono B4.size)
    clear hb7 S7
    generalize w7.alloc (.cells #[.int .u64 0, .int .u64 0, .int .u64 0, .int .u64 0] 24) = W7 at H1 H2 H4 H6 B4 ⊢
    generalize w7.heap.size = b7
    go_cut [11] (fun s11 W => s11 = .int .i64 6 ∧ W4 W b1 258 0 0 0 ∧ W4 W b2 257 1 0 0 ∧ W4 W b4 18446744073709551615 0 0 0 ∧ W4 W b6 258 0 0 0 ∧ Below w.heap.size w W)
    case first =>
      obtain ⟨p0, p1, p2, p3, hlt⟩ := id H1
      clear cv1 cv2
      go_region_with (first | (go_at_call 18; refine (of_exact 1 _).mono ?_; rintro e w2 ⟨rfl, rfl⟩) | (go_at_call 12; refine (ex_under _).mono ?_; rintro e w3 ⟨rfl, hb3⟩; have hs3 := hb3.size; (try simp at hs3); obtain ⟨hce3, hfr3⟩ := bcell hb3))
      all_goals
        have hB1 := B4.size
        have hB3 := hb3.size
        go_wp2_with fail
        go_meet
        suffices S : Below W7.heap.size W7 _ from ⟨rfl, H1.below S, H2.below S, H4.below S, H6.below S, B4.trans (S.mono B4.size)⟩
        (repeat (first | exact Below.refl _ _ | refine Below.drew ?_ | refine Below.setCell ?_ (by first | omega | (simp; done) | (simp; omega) | (simp at hB3 ⊢; omega) | (simp at hB3; omega)) _ | refine Below.alloc ?_ (by first | omega | (simp; done) | (simp; omega) | (simp at hB3 ⊢; omega) | (simp at hB3; omega)) _ | refine Below.trans ?_ (hb3.mono (by first | omega | (simp; done) | (simp; omega) | (simp at hB3 ⊢; omega) | (simp at hB3; omega)))))
    case rest =>
      obtain ⟨rfl, H1, H2, H4, H6, B8⟩ := hcut
      have hsz := B8.size
      obtain ⟨p0, p1, p2, p3, lp⟩ := H1
      obtain ⟨q0, q1, q2, q3, lq⟩ := H2
      obtain ⟨r0, r1, r2, r3, lr⟩ := H4
      obtain ⟨t0, t1, t2, t3, lt⟩ := H6
      clear hsz
      go_wp2_with fail
      refine (small_yes _ _).mono ?_
      rintro e w9 ⟨rfl, hb⟩
      clear r0 r1 r2 r3 lr
      have S := hb
      have H1 := W4.below ⟨p0, p1, p2, p3, lp⟩ S
      have H2 := W4.below ⟨q0, q1, q2, q3, lq⟩ S
      have H6 := W4.below ⟨t0, t1, t2, t3, lt⟩ S
      replace B8 := B8.trans (S.mono B8.size)
      clear S hb p0 p1 p2 p3 lp q0 q1 q2 q3 lq t0 t1 t2 t3 lt
      obtain ⟨p0, p1, p2, p3, lp⟩ := H1
      obtain ⟨q0, q1, q2, q3, lq⟩ := H2
      obtain ⟨t0, t1, t2, t3, lt⟩ := H6
      go_wp2_with fail
      refine (ex_big _).mono ?_
      rintro e w10 ⟨rfl, hb⟩
      have S := hb
      have H1 := W4.below ⟨p0, p1, p2, p3, lp⟩ S
      have H2 := W4.below ⟨q0, q1, q2, q3, lq⟩ S
      have H6 := W4.below ⟨t0, t1, t2, t3, lt⟩ S
      replace B8 := B8.trans (S.mono B8.size)
      clear S hb p0 p1 p2 p3 lp q0 q1 q2 q3 lq t0 t1 t2 t3 lt
      obtain ⟨p0, p1, p2, p3, lp⟩ := H1
      obtain ⟨q0, q1, q2, q3, lq⟩ := H2
      obtain ⟨t0, t1, t2, t3, lt⟩ := H6
      go_wp2_with fail
      have hS : S9 w b1 b2 b6 w10 := ⟨⟨p0, p1, p2, p3, lp⟩, ⟨q0, q1, q2, q3, lq⟩, ⟨t0, t1, t2, t3, lt⟩, B8⟩
      clear p0 p1 p2 p3 lp q0 q1 q2 q3 lq t0 t1 t2 t3 lt B8
      refine Code.wp_mono ?_ (r9_wp w _ b1 b2 b6 _ _ _ _ _ _ _ _ _ _ _ _ _ _ _ _ _ _ _ _ _ _ _ _ _ _ _ _ _ _ _ _ _ _ _ _ _ _ _ _ _ _ _ _ _ _ _ _ _ _ _ _ _ _ _ _ _ _ _ _ _ _ _ _ _ _ _ _ _ _ _ _ _ _ _ _ _ _ _ _ _ _ _ _ _ _ _ _ _ _ _ _ _ _ _ _ _ _ _ _ _ _ _ _ _ _ _ _ _ _ _ _ _ _ (by kernel_rfl) hS)
      rintro _ b U ⟨rfl, h0, hd, hU⟩
      clear hS
      go_wp2_with fail
      refine bodyPost_ret (v := .bool true) (by simp [results, Tryd.results9, go_sem, h0]) hd ⟨rfl, hU.low⟩
end Go.Proofs.YtcnngpmganhjoaaDoor
