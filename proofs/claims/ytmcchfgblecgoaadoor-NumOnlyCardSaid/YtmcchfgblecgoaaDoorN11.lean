/- The contract of num.Unvar. -/
import Derived.Test.YtmcchfgblecgoaaDoorN9
import Derived.Test.YtmcchfgblecgoaaDoorN10
namespace Go.Proofs.YtmcchfgblecgoaaDoor
open Go Go.RowKit Go.Shelf
attribute [local go_sem] Oper.semAt_some

theorem cut_from (l : List UInt8) (a : Nat) : (⟨l.toArray⟩ : ByteArray).extract a l.length = ⟨(l.drop a).toArray⟩ := by
  apply ByteArray.ext
  simp [List.take_of_length_le]

/-- What lies in memory when i digits have come. -/
structure UX (w : World) (l : List UInt8) (a e i : Nat) (W : World) : Prop where
  cn : W.cell? ⟨w.heap.size, 0, none⟩ = some (.int .u64 (M.vd (l.take i) : Nat))
  fn : W.frozen? ⟨w.heap.size, 0, none⟩ = false
  ca : W.cell? ⟨w.heap.size + 1, 0, none⟩ = some (.int .i64 ((a + i : Nat) : Int))
  fa : W.frozen? ⟨w.heap.size + 1, 0, none⟩ = false
  ce : W.cell? ⟨w.heap.size + 2, 0, none⟩ = some (.int .i64 e)
  fe : W.frozen? ⟨w.heap.size + 2, 0, none⟩ = false
  cs : W.cell? ⟨w.heap.size + 3, 0, none⟩ = some (.string ⟨l.toArray⟩)
  cw : W.cell? ⟨w.heap.size + 4, 0, none⟩ = some (.func (.func 23) #[] #[.pointer (some ⟨w.heap.size + 2, 0, none⟩)])
  low : Below w.heap.size w W
  ge : w.heap.size + 5 ≤ W.heap.size

theorem ux_own {w : World} {l : List UInt8} {a e B : Nat} (hB : w.heap.size ≤ B) : OwnFrom B (UX w l a e) := by
  intro i W W' row hf hg hr
  have hr' : ∀ r, row = some r → ∃ o : Obj, W.heap[r]? = some o ∧ o.isCells = false := fun r e => (hr r e).2
  refine ⟨cell_kept hf.cn hg hr', (frozen_kept hf.cn hg hr').trans hf.fn, cell_kept hf.ca hg hr', (frozen_kept hf.ca hg hr').trans hf.fa, cell_kept hf.ce hg hr', (frozen_kept hf.ce hg hr').trans hf.fe, cell_kept hf.cs hg hr', cell_kept hf.cw hg hr', hf.low.grown hg hf.low.size (fun k e => by have := (hr k e).1; omega), ?_⟩
  have := ((Below.refl 0 W).grown hg (by omega) (fun _ _ => Nat.zero_le _)).size
  have := hf.ge
  omega

theorem dig_small (x i : Nat) (h10 : i < 10) (h9 : i = 9 → x ≤ 1) : x % 128 * 2 ^ (7 * i) < 18446744073709551616 := by
  by_cases e : i = 9
  · subst e
    have := h9 rfl
    rw [show (2 : Nat) ^ (7 * 9) = 9223372036854775808 from rfl, Nat.mod_eq_of_lt (by omega)]
    omega
  · have h2 : x % 128 * 2 ^ (7 * i) ≤ 127 * 2 ^ (7 * 8) := Nat.mul_le_mul (by omega) (Nat.pow_le_pow_right (by omega) (by omega))
    exact Nat.lt_of_le_of_lt h2 (by decide)

theorem digit_add (l : List UInt8) (i : Nat) (hi : i < l.length) (h10 : i < 10) (h9 : i = 9 → (l.getD i 0).toNat ≤ 1) :
    ∃ s : Int, IntKind.u64.wrap ((((l.getD i 0).toNat % 128 : Nat) : Int) * 2 ^ min ((7 * i : Nat) : Int).toNat 64) = s ∧ bits BinOp.or IntKind.u64 ((M.vd (l.take i) : Nat) : Int) s = ((M.vd (l.take (i + 1)) : Nat) : Int) := by
  have hg : l.getD i 0 = l[i] := by rw [List.getD_eq_getElem?_getD, List.getElem?_eq_getElem hi, Option.getD_some]
  rw [hg] at h9 ⊢
  have ht : List.take (i + 1) l = List.take i l ++ [l[i]] := List.take_succ_eq_append_getElem hi
  have hl : (List.take i l).length = i := by simp; omega
  have ha := M.vd_lt (List.take i l)
  rw [hl] at ha
  have hp : (128 : Nat) ^ i = 2 ^ (7 * i) := by rw [show (128 : Nat) = 2 ^ 7 from rfl, ← Nat.pow_mul]
  have hmin : min ((7 * i : Nat) : Int).toNat 64 = 7 * i := by rw [Int.toNat_natCast]; omega
  have hb : (l[i]).toNat % 128 * 2 ^ (7 * i) < 18446744073709551616 := dig_small _ i h10 h9
  refine ⟨(((l[i]).toNat % 128 * 2 ^ (7 * i) : Nat) : Int), ?_, ?_⟩
  · rw [hmin, show (((l[i]).toNat % 128 : Nat) : Int) * 2 ^ (7 * i) = (((l[i]).toNat % 128 * 2 ^ (7 * i) : Nat) : Int) by simp, IntKind.wrap_u64]
    omega
  · have ha64 : M.vd (List.take i l) < 18446744073709551616 := Nat.lt_of_lt_of_le ha (by rw [hp]; exact Nat.le_trans (Nat.pow_le_pow_right (n := 2) (by omega) (show 7 * i ≤ 63 by omega)) (by decide))
    rw [bits_or_u64_nat _ _ ha64 hb, ht, M.vd_snoc, hl, hp]
    have := Nat.two_pow_add_eq_or_of_lt (i := 7 * i) (b := M.vd (List.take i l)) (hp ▸ ha) ((l[i]).toNat % 128)
    rw [Nat.or_comm, Nat.mul_comm ((l[i]).toNat % 128), ← this, Nat.add_comm]

/-- What is told. -/
def UPost (r : List UInt8) (a K e : Nat) (x : Ending) : Prop :=
  (e = 0 ∧ x = .returned (.tuple #[.int .u64 (M.vd (r.take K) : Nat), .int .i64 ((a + K : Nat) : Int), .int .i64 0])) ∨ (e ≠ 0 ∧ x = .returned (.tuple #[.int .u64 0, .int .i64 0, .int .i64 e]))

set_option maxRecDepth 100000 in
set_option maxHeartbeats 4000000 in
theorem unvar_in (l r : List UInt8) (a K e : Nat) (w : World) (ha : a ≤ l.length) (hmax : l.length ≤ 1000000) (hr : Hid (l.drop a = r)) (hrl : r.length ≤ l.length) (s1 : K ≤ 10) (s2 : K ≤ r.length) (S3 : Hid (∀ j, j < K → M.ft r j = 0))
    (S4 : Hid (e = 0 → 1 ≤ K ∧ (∀ j, j + 1 = K → (r.getD j 0).toNat < 128) ∧ ∀ j, j + 1 < K → 128 ≤ (r.getD j 0).toNat))
    (S5 : Hid (e ≠ 0 → K < 10 ∧ M.ft r K = e ∧ ∀ j, j < K → 128 ≤ (r.getD j 0).toNat)) :
    CallsIn Fence.wide 4 Tryd.prog 15 #[.string ⟨l.toArray⟩, .int .i64 a] w fun x w' => UPost r a K e x ∧ Below w.heap.size w w' := by
  have hro : Fence.wide.round = none := rfl
  refine callsIn_of_wp_marks Tryd.func15 rfl trivial ?_ hro
  simp only [Tryd.ntmps15, List.size_toArray, List.length_cons, List.length_nil, Nat.reduceAdd, Nat.reduceSub, Array.replicate_succ, Array.replicate_zero, List.push_toArray, List.append_toArray, List.nil_append, List.cons_append]
  gi_wp2_with (refine ⟨trivial, ?_⟩; gi_at_call 24; refine (undigits_in _ _ _ _ _ _).mono ?_; rintro e w' ⟨rfl, rfl⟩)
  rw [cut_from, hr.out]
  obtain ⟨W0, hW0⟩ : ∃ W0, (((((w.alloc (Obj.cells #[Value.int IntKind.u64 0] 22)).alloc (Obj.cells #[Value.int IntKind.i64 ↑a] 3)).alloc (Obj.cells #[Value.int IntKind.i64 0] 25)).alloc (Obj.cells #[Value.string ⟨r.toArray⟩] 9)).alloc (Obj.cells #[Value.func (Fn.func 23) #[] #[Value.pointer (some { block := w.heap.size + 1 + 1, off := 0 })]] 48)) = W0 := ⟨_, rfl⟩
  have hX : UX w r a 0 0 W0 := by
    rw [← hW0]
    refine ⟨by simp [go_sem, M.vd], by simp [go_sem], by simp [go_sem], by simp [go_sem], by simp [go_sem], by simp [go_sem], by simp [go_sem], by simp [go_sem], ?_, by simp⟩
    exact (((((Below.refl _ _).alloc (Nat.le_refl _) _).alloc (by simp) _).alloc (by simp; omega) _).alloc (by simp; omega) _).alloc (by simp; omega) _
  have hsz : W0.heap.size = w.heap.size + 5 := by rw [← hW0]; simp
  rw [hW0]
  clear hW0
  have HS := Lib.hid hsz
  refine range_all (n := 4) (by omega) (gf := 32) (lb := #[.pointer (some ⟨w.heap.size + 3, 0, none⟩), .pointer (some ⟨w.heap.size + 4, 0, none⟩)]) rfl (enters_of Tryd.func32 (by kernel_rfl) rfl) (encs := fun x : Nat => #[.int .i64 x, .int .u8 (((r.getD x 0).toNat % 128 : Nat) : Int)]) (fun _ => rfl) (List.range K)
    (fun pre W => UX w r a 0 pre.length W) (fun pre => ux_own (by omega) pre.length) (EndE (w.heap.size + 2) e) (fun _ W => UX w r a e K W) (fun _ => ux_own (by omega) K) ?endE ?seq hX
    (fun x => { tmps := #[.string ⟨l.toArray⟩, .int .i64 a, undef, undef, .int .u64 0, .int .i64 0, .int .i64 0, .pointer (some ⟨w.heap.size, 0, none⟩), .pointer (some ⟨w.heap.size + 1, 0, none⟩), .pointer (some ⟨w.heap.size + 1 + 1, 0, none⟩), .func (.func 23) #[] #[.pointer (some ⟨w.heap.size + 1 + 1, 0, none⟩)], .int .i64 x, .int .u8 (((r.getD x 0).toNat % 128 : Nat) : Int), .int .i64 a, .bool (decide ((a : Int) < 0)), .bool (decide ((a : Int) < 0)), .int .i64 a, .string ⟨l.toArray⟩, .int .i64 l.length, .bool false, .bool (decide ((a : Int) < 0)), .int .i64 a, .func (.func 23) #[] #[.pointer (some ⟨w.heap.size + 1 + 1, 0, none⟩)], .string ⟨l.toArray⟩, .int .i64 a, .string ⟨r.toArray⟩, .func (.func 23) #[] #[.pointer (some ⟨w.heap.size + 1 + 1, 0, none⟩)], .func (.func 32) #[] #[.pointer (some ⟨w.heap.size + 1 + 1 + 1, 0, none⟩), .pointer (some ⟨w.heap.size + 1 + 1 + 1 + 1, 0, none⟩)], .int .i64 x, .int .u8 (((r.getD x 0).toNat % 128 : Nat) : Int), undef, undef, undef, undef, undef, undef, undef, undef, undef, undef, undef, undef, undef, undef], defers := [] }) ?assign ?body ?done
  case endE =>
    rintro A B hA (⟨e0, rfl⟩ | ⟨e1, rfl⟩)
    · rw [List.length_range] at hA
      exact ⟨KeepsOthers.refl _, e0 ▸ hA⟩
    · rw [List.length_range] at hA
      refine ⟨KeepsOthers.setCell _ _ _, ?_⟩
      obtain ⟨cn, fn, ca, fa, ce, fe, cs, cw, low, ge⟩ := hA
      exact ⟨by simp [go_sem, cn], by simp [go_sem, fn], by simp [go_sem, ca], by simp [go_sem, fa], by simp [go_sem, ce], by simp [go_sem, fe], by simp [go_sem, cs], by simp [go_sem, cw], low.setCell (p := ⟨w.heap.size + 2, 0, none⟩) (by simp) _, by simpa using ge⟩
  case seq =>
    intro l J W hJI hd hY hJ0
    refine (undigits_run 2 K e r s1 s2 S3.out S4.out S5.out l (w.heap.size + 3) (w.heap.size + 4) (w.heap.size + 2) J (fun pre W h => ⟨(hJI pre W h).cs, (hJI pre W h).cw, (hJI pre W h).ce, (hJI pre W h).fe⟩) ?_ W hJ0).mono ?_
    · intro i W1 hi hJ1
      obtain ⟨post, hp⟩ := range_cut hi
      have := hY _ i post W1 hp hJ1
      rwa [← List.range_succ] at this
    · rintro e W' h
      exact h
  case assign =>
    intro l x W K hK
    clear hsz hX
    gi_wp2
    exact hK
  case body =>
    intro l pre x post W hx hi
    obtain ⟨h1, h2, h3⟩ := range_part hx
    subst h2
    rw [List.length_append, List.length_singleton]
    obtain ⟨i, hpi⟩ : ∃ i, pre.length = i := ⟨_, rfl⟩
    rw [hpi] at hi h3 ⊢
    clear hx h1 hpi hsz hX
    have hil : i < r.length := by omega
    have hft := S3.out i h3
    have h9 : i = 9 → (r.getD i 0).toNat ≤ 1 := by
      intro e9
      have hg : r.getD i 0 = r[i] := by rw [List.getD_eq_getElem?_getD, List.getElem?_eq_getElem hil, Option.getD_some]
      rw [hg]
      rcases Nat.lt_or_ge 1 (r[i]).toNat with h | h
      · simp only [M.ft, M.ftc, List.getElem?_eq_getElem hil] at hft
        rw [if_pos ⟨e9, h⟩] at hft
        omega
      · exact h
    obtain ⟨s, hs, hor⟩ := digit_add r i hil (by omega) h9
    have HX := Lib.hid hi
    obtain ⟨cn, fn, ca, fa, ce, fe, cs, cw, low, ge⟩ := hi
    have hd : IntKind.u64.wrap (((r.getD i 0).toNat % 128 : Nat) : Int) = (((r.getD i 0).toNat % 128 : Nat) : Int) := by rw [IntKind.wrap_u64]; omega
    have hq : IntKind.i64.wrap (7 * (i : Int)) = ((7 * i : Nat) : Int) := by
      rw [show 7 * (i : Int) = ((7 * i : Nat) : Int) by simp]
      exact IntWalk.i64_in _ (by omega)
    have HR := Lib.hid (unvar_reg l w.heap.size i (M.vd (r.take i) : Nat) (((r.getD i 0).toNat % 128 : Nat) : Int) ((7 * i : Nat) : Int) s ((M.vd (r.take (i + 1)) : Nat) : Int) W)
    have HQ := Lib.hid hq
    have HO := Lib.hid hor
    have HH := Lib.hid hs
    have HD := Lib.hid hd
    clear hq hor hs h9 hft hd
    obtain ⟨d, hdd⟩ : ∃ d, (((r.getD i 0).toNat % 128 : Nat) : Int) = d := ⟨_, rfl⟩
    rw [hdd] at HR HD HH ⊢
    clear hdd
    gi_wp2
    refine wpIn_mono' (HR.out _ _ _ _ _ _ _ _ _ _ _ _ _ _ _ _ _ _ _ _ _ _ _ _ _ _ _ _ _ _ _ _ _ _ _ _ _ _ _ _ _ _ (by kernel_rfl) cn fn HD.out HQ.out (by omega) HH.out HO.out) ?_
    rintro b u ⟨rfl, rfl⟩
    have hlt1 : w.heap.size + 1 < W.heap.size := by omega
    clear HR
    gi_wp2
    refine ⟨((KeepsOthers.setCell _ _ _).trans (KeepsOthers.setCell _ _ _)).trans (KeepsOthers.drew _), ?_⟩
    have hlt0 : w.heap.size < W.heap.size := by omega
    refine ⟨by simp [go_sem, cn], by simp [go_sem, fn], ?_, by simp [go_sem, fa], by simp [go_sem, ce], by simp [go_sem, fe], by simp [go_sem, cs], by simp [go_sem, cw], ((low.setCell (p := ⟨w.heap.size, 0, none⟩) (by simp) _).setCell (p := ⟨w.heap.size + 1, 0, none⟩) (by simp) _).drew, by simpa using ge⟩
    rw [show ((a + (i + 1) : Nat) : Int) = (a : Int) + i + 1 by omega]
    simp [go_sem, ca]
  case done =>
    intro D W hD hXm hK
    clear hsz hX
    have HX := Lib.hid hXm
    obtain ⟨cn, fn, ca, fa, ce, fe, cs, cw, low, ge⟩ := hXm
    by_cases e0 : e = 0
    · subst e0
      gi_wp2
      gi_region
      all_goals gi_wp2
      all_goals
        have hK' : W.drew.heap[D]? = some (.deferred (some [])) := hK
        refine ⟨by simp, .inl ⟨_, _, rfl, run_takeDeferred hK', ?_⟩⟩
        exact ⟨_, results_tmp3 rfl _ _ _, .inl ⟨rfl, by simp⟩, low.drew.trans (belowK_b (w := w) (Nat.le_refl _) _ D _ _ (by have := HS.out; omega) hK' rfl rfl)⟩
    · have hb : ((e : Int) != 0) = true := by simp [e0]
      have HE := Lib.hid e0
      clear e0
      gi_wp2
      gi_region
      all_goals gi_wp2
      all_goals
        have hK' : W.drew.heap[D]? = some (.deferred (some [])) := hK
        refine ⟨by simp, .inl ⟨_, _, rfl, run_takeDeferred hK', ?_⟩⟩
        exact ⟨_, results_tmp3 rfl _ _ _, .inr ⟨HE.out, rfl⟩, low.drew.trans (belowK_b (w := w) (Nat.le_refl _) _ D _ _ (by have := HS.out; omega) hK' rfl rfl)⟩

set_option maxHeartbeats 1000000 in
theorem unvar_arg (l : List UInt8) (a : Int) (w : World) (h : ¬ (0 ≤ a ∧ a ≤ l.length)) :
    Calls Tryd.prog 15 #[.string ⟨l.toArray⟩, .int .i64 a] w fun e w' => e = .returned (.tuple #[.int .u64 0, .int .i64 0, .int .i64 1]) ∧ w = w' := by
  by_cases h1 : a < 0
  · clear h
    go_enter Tryd.func15, Tryd.ntmps15
    go_wp2_with fail
    refine bodyPost_ret (results_tmp3 rfl _ _ _) rfl ?_
    exact ⟨rfl, rfl⟩
  · have h8 : (l.length : Int) < a := by omega
    clear h
    go_enter Tryd.func15, Tryd.ntmps15
    go_wp2_with fail
    refine bodyPost_ret (results_tmp3 rfl _ _ _) rfl ?_
    exact ⟨rfl, rfl⟩

theorem unvar_any (l : List UInt8) (a : Int) (w : World) (hmax : l.length ≤ 1000000) :
    Calls Tryd.prog 15 #[.string ⟨l.toArray⟩, .int .i64 a] w fun e w' => e = .returned (.tuple #[.int .u64 ((M.uv l a).1 : Nat), .int .i64 (M.uv l a).2.1, .int .i64 ((M.uv l a).2.2 : Nat)]) ∧ Below w.heap.size w w' := by
  by_cases h : 0 ≤ a ∧ a ≤ l.length
  · obtain ⟨k, rfl⟩ : ∃ k : Nat, a = k := ⟨a.toNat, by omega⟩
    obtain ⟨s1, s2, s3, s4, s5⟩ := M.kc_spec (l.drop k) 0 (by omega)
    simp only [Nat.zero_add] at s1 s3 s5
    refine (callsIn_wide.1 (unvar_in l (l.drop k) k (M.kc 0 (l.drop k)).1 (M.kc 0 (l.drop k)).2 w (by omega) hmax (Lib.hid rfl) (by simp) s1 s2 (Lib.hid s3) (Lib.hid s4) (Lib.hid s5))).mono ?_
    rintro x w' ⟨hx, hb⟩
    refine ⟨?_, hb⟩
    unfold M.uv
    rw [if_pos h, Int.toNat_natCast]
    rcases hx with ⟨e0, rfl⟩ | ⟨e1, rfl⟩
    · rw [if_pos e0]
      simp
    · rw [if_neg e1]
      rfl
  · have e : M.uv l a = (0, 0, 1) := by unfold M.uv; rw [if_neg h]
    rw [e]
    exact (unvar_arg l a w h).mono fun _ _ ⟨h1, h2⟩ => ⟨h1, h2 ▸ Below.refl _ _⟩
end Go.Proofs.YtmcchfgblecgoaaDoor
