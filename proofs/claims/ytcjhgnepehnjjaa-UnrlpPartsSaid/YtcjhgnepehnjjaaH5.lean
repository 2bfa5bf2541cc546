/- UnrlpHeads, under what the calls of package unrlp must do. -/
import Derived.Test.YtcjhgnepehnjjaaH1
namespace Go.Proofs.Ytcjhgnepehnjjaa
open Go Go.RowKit

theorem headZ_le (s : List UInt8) (k : Int) : (headZ s k).e ≤ 8 := by
  unfold headZ
  split
  · decide
  · exact M.headL_e_le _ _
theorem headZ_no {s : List UInt8} {k : Int} (h : (headZ s k).e ≠ 0) : headZ s k = M.hdErr (headZ s k).e := by
  unfold headZ at h ⊢
  split
  · rfl
  · rename_i h1
    rw [if_neg h1] at h
    exact M.headL_no h
theorem headZ_ok {s : List UInt8} {k : Int} (h : (headZ s k).e = 0) : ∃ j : Nat, k = j ∧ j ≤ (headZ s k).off ∧ (headZ s k).off ≤ j + 4 ∧ j < (headZ s k).off + (headZ s k).n ∧ (headZ s k).off + (headZ s k).n ≤ s.length := by
  unfold headZ at h ⊢
  split at h
  · cases h
  · rename_i h1
    rw [if_neg h1]
    exact ⟨k.toNat, by omega, M.headL_ok h⟩
theorem headZ_dec {s : List UInt8} {l : Bool} {d : List UInt8} {xs : List M.It} (hx : M.decodeL s = (.mk l d xs, 0)) : (headZ s 0).list = l ∧ (headZ s 0).off + (headZ s 0).n = s.length := by
  obtain ⟨e1, e2⟩ := M.dec_only (s := s) (by rw [hx])
  rw [hx] at e1 e2
  have h2 := (M.checkI_ok.1 e2).2
  have e := M.headL_item [] (.mk l d xs) [] h2
  have e3 : ([] : List UInt8).length = 0 := rfl
  rw [List.append_nil, List.nil_append, e3] at e
  have e4 : headZ s 0 = M.headL s 0 := rfl
  simp only at e1
  rw [e1] at e
  rw [e4, e]
  refine ⟨?_, ?_⟩
  · cases l <;> rfl
  · show 0 + _ + _ = _
    rw [← e1, M.bytes_len]
    simp

set_option maxRecDepth 100000 in
set_option maxHeartbeats 4000000 in
theorem heads_law (HD : Hid DecOk) (HH : Hid HeadOk) (HN : Hid NextOk) (s : List UInt8) (k : Int) (w : World) :
    Calls Try.prog 3 #[.string ⟨s.toArray⟩, .int .i64 k] w fun e w' => e = .returned (.bool true) ∧ Below w.heap.size w w' := by
  go_enter Try.func3, Try.ntmps3
  go_wp2_with fail
  refine (uworks HD HH HN _).mono ?_
  rintro e w1 ⟨rfl, hb1⟩
  by_cases hs : 1500 < s.length
  · go_wp2_with fail
    go_ret
    exact ⟨rfl, hb1⟩
  have k1 := Lib.hid (HH.out s k w1 (by omega))
  have K2 : Hid (∀ W, Calls Try.prog 7 #[.string ⟨s.toArray⟩, .int .i64 k] W fun e w' => e = .returned (.tuple #[.int .i64 (((headZ s k).off + (headZ s k).n : Nat) : Int), .int .i64 ((headZ s k).e : Nat)]) ∧ Below W.heap.size W w') := fun W => HN.out s k W (by omega)
  by_cases he : (headZ s k).e = 0
  · obtain ⟨j, hj, o1, o2, o3, o4⟩ := headZ_ok he
    have HZ : Hid (j = 0 → ∀ l d xs, M.decodeL s = (.mk l d xs, 0) → (headZ s k).list = l ∧ (headZ s k).off + (headZ s k).n = s.length) := fun h l d xs hx => by
      subst h hj
      exact headZ_dec hx
    have k3 := Lib.hid (fun W => HD.out s W (by omega))
    subst hj
    rw [he] at k1 K2
    generalize (headZ s j).off = of at *
    generalize (headZ s j).n = n at *
    generalize (headZ s j).list = ls at *
    clear he
    go_wp2_with fail
    refine k1.out.mono ?_
    rintro e w2 ⟨rfl, hb2⟩
    have hb02 := hb1.trans (hb2.mono hb1.size)
    go_wp2_with fail
    refine (K2.out _).mono ?_
    rintro e w3 ⟨rfl, hb3⟩
    have hb03 := hb02.trans (hb3.mono hb02.size)
    go_wp2_with fail
    refine (k3.out _).mono ?_
    rintro e w4 ⟨⟨l, d, xs, a, cap, rfl, hx, hL⟩, hb4⟩
    have hb04 := hb03.trans (hb4.mono hb03.size)
    have B := Lib.hid (hb04.alloc hb04.size (.cells #[.bool l, .string ⟨d.toArray⟩, .slice a xs.length cap] 30))
    clear hb04 hb4 hb03 hb3 hb02 hb2 hb1 k1 K2 k3
    by_cases hj0 : j = 0
    · by_cases hec : (M.decodeL s).2 = 0
      · obtain ⟨rfl, ho⟩ := HZ.out hj0 l d xs (Prod.ext hx hec)
        subst hj0
        rw [hec]
        have ho1 : ((of : Int) + (n : Int) == (s.length : Int)) = true := by rw [beq_iff_eq]; omega
        clear HZ hx hec
        go_wp2_with fail
        go_ret
        exact ⟨rfl, B.out⟩
      · clear HZ hx
        generalize (M.decodeL s).2 = ec at *
        have hec2 : ((ec : Int) != 0) = true := by rw [bne_iff_ne]; omega
        subst hj0
        go_wp2_with fail
        go_ret
        exact ⟨rfl, B.out⟩
    · clear HZ hx
      generalize (M.decodeL s).2 = ec at *
      have hj1 : ((j : Int) != 0) = true := by rw [bne_iff_ne]; omega
      go_wp2_with fail
      all_goals
        go_ret
        exact ⟨rfl, B.out⟩
  · have e1 := headZ_no he
    have e2 := headZ_le s k
    have k1' := k1.out
    have K2' : Hid (∀ W, Calls Try.prog 7 #[.string ⟨s.toArray⟩, .int .i64 k] W fun e w' => e = .returned (.tuple #[.int .i64 0, .int .i64 ((headZ s k).e : Nat)]) ∧ Below W.heap.size W w') := fun W => by
      have := K2.out W
      rw [e1] at this
      exact this
    have k1'' : Hid (Calls Try.prog 6 #[.string ⟨s.toArray⟩, .int .i64 k] w1 fun e w' => e = .returned (.tuple #[.int .i64 0, .int .i64 0, .bool false, .int .i64 ((headZ s k).e : Nat)]) ∧ Below w1.heap.size w1 w') := by
      rw [e1] at k1'
      exact k1'
    clear K2 k1 k1' e1
    generalize (headZ s k).e = ec at *
    have hec2 : ((ec : Int) != 0) = true := by rw [bne_iff_ne]; omega
    go_wp2_with fail
    refine k1''.out.mono ?_
    rintro e w2 ⟨rfl, hb2⟩
    have hb02 := hb1.trans (hb2.mono hb1.size)
    go_wp2_with fail
    refine (K2'.out _).mono ?_
    rintro e w3 ⟨rfl, hb3⟩
    have hb03 := hb02.trans (hb3.mono hb02.size)
    go_wp2_with fail
    go_ret
    exact ⟨rfl, hb03⟩
end Go.Proofs.Ytcjhgnepehnjjaa
