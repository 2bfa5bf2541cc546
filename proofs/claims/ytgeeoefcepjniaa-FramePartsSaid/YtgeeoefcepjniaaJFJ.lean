/- The law FrameParts. -/
import Derived.Test.YtgeeoefcepjniaaJFI
namespace Go.Proofs.Ytgeeoefcepjniaa
open Go Go.RowKit
attribute [local go_sem] Oper.semAt_some

theorem c4_inv : ∀ (L : List M.Fr) (j : Nat) (y : Value), (L.flatMap c4f)[j]? = some y → ∃ i r f, L[i]? = some f ∧ j = i * 4 + r ∧ r < 4 ∧ (c4f f)[r]? = some y
  | [], j, y, h => by simp at h
  | f :: L, j, y, h => by
    rw [List.flatMap_cons] at h
    by_cases hj : j < 4
    · rw [List.getElem?_append_left (by simpa [c4f] using hj)] at h
      exact ⟨0, j, f, rfl, by omega, hj, h⟩
    · rw [List.getElem?_append_right (by simp [c4f]; omega)] at h
      obtain ⟨i, r, g, h1, h2, h3, h4⟩ := c4_inv L _ y h
      exact ⟨i + 1, r, g, h1, by simp [c4f] at h2; omega, h3, h4⟩
theorem addr_addG (b o j : Nat) : (⟨b, o, none⟩ : Addr).add j = ⟨b, o + j, none⟩ := by
  unfold Addr.add
  split
  · rename_i h; rw [h, Nat.add_zero]
  · rfl
theorem Fs.cells {w : World} {n m cap : Nat} {ls : List M.Fr} {ad : Addr} (h : Fs w n ls (.slice (some ad) m cap)) : ∀ j y, (ls.flatMap c4f)[j]? = some y → w.cell? (ad.add j) = some y := by
  intro j y hy
  cases h with
  | nil_ hm => simp at hy
  | row hb hc hm c0 c1 c2 c3 =>
    obtain ⟨i, r, f, h1, rfl, h3, h4⟩ := c4_inv _ _ _ hy
    rw [addr_addG]
    match r, h3, h4 with
    | 0, _, h4 => simp [c4f] at h4; subst h4; exact c0 i f h1
    | 1, _, h4 => simp [c4f] at h4; subst h4; exact c1 i f h1
    | 2, _, h4 => simp [c4f] at h4; subst h4; exact c2 i f h1
    | 3, _, h4 => simp [c4f] at h4; subst h4; exact c3 i f h1
theorem wpList_append_frs {ops : Array Oper} {rest : List Oper} {o : Oper} {a : Act} {Q : Exit → Act → World → Prop} (w : World) (hgd : o.guard = none) (s x : Operand) (ho : o.op = .call { callee := .builtin .append, args := #[s, x], argTypes := #[22, 22] })
    (B : Nat) (L xs : List M.Fr) (v : Value) (n : Nat) (oa : Option Addr) (c : Nat) (hs : a.eval s = v) (hx : a.eval x = .slice oa xs.length c) (hown : FrRow B w L v) (hlen : L.length + xs.length ≤ 1000000) (hB : B ≤ w.heap.size)
    (hF : Fs w n xs (.slice oa xs.length c)) (hno : oa = none → c = 0)
    (h : ∀ v' w', FrRow B w' (L ++ xs) v' → w.grownBy w' v.ownBlock → wpList Try.prog ops Q rest (a.put o.dst v') w') : wpList Try.prog ops Q (o :: rest) a w := by
  cases oa with
  | none =>
    obtain rfl := hno rfl
    have hxs : xs = [] := by
      cases hF with
      | nil_ hm => rfl
    subst hxs
    obtain ⟨i0, hi, _, _, _⟩ := info_parts Try.ofFrame
    refine wpList_append_own_none hgd s x 22 ho B 24 i0 4 Try.underlying22 hi v L.length (L.flatMap c4f) hs hown hx ?_
    exact h v w (by rwa [List.append_nil]) (grown_refl _ _)
  | some ad => exact wpList_append_fr w hgd s x ho B L xs v ad xs.length c rfl hs hx hown hlen hB hF.cells h
theorem FrRow.lit0 (w : World) : FrRow w.heap.size (w.alloc (.cells #[] 24)) [] (.slice (some ⟨w.heap.size, 0, none⟩) 0 0) :=
  ⟨rfl, .inr ⟨w.heap.size, 0, #[], rfl, Nat.le_refl _, heap_alloc_new w _, Nat.le_refl _, by decide, rfl, rfl⟩⟩

theorem M.allF_len_ok {ls : List M.Fr} (h : M.firF ls = 0) : (M.allF ls).length ≤ ls.length * 4119 := M.allF_len (M.firF_mem h)
theorem M.parts_ok {ls ms : List M.Fr} {s1 s2 : List UInt8} (h1 : M.putF ls = (s1, 0)) (h2 : M.putF ms = (s2, 0)) (h : ls.length + ms.length ≤ 32) :
    M.putF (ls ++ ms) = (s1 ++ s2.drop 1, 0) ∧ s1 = 0 :: M.allF ls ∧ s2.drop 1 = M.allF ms ∧ 1 ≤ s2.length ∧ s1.length ≤ 140000 ∧ s2.length ≤ 140000 ∧ (∀ f ∈ ls, M.chkF f = 0) := by
  obtain ⟨e1, e2, e3, e4, e5⟩ := M.putF_ok (ls := ls) (by rw [h1])
  obtain ⟨g1, g2, g3, g4, g5⟩ := M.putF_ok (ls := ms) (by rw [h2])
  rw [h1] at e1
  rw [h2] at g1
  obtain ⟨rfl, _⟩ := Prod.mk.inj e1
  obtain ⟨rfl, _⟩ := Prod.mk.inj g1
  have hf : M.firF (ls ++ ms) = 0 := M.firF_of fun f hf => by
    rcases List.mem_append.1 hf with q | q
    · exact M.firF_mem e2 f q
    · exact M.firF_mem g2 f q
  have hl : ls.length ≠ 0 := fun q => e3 (List.eq_nil_of_length_eq_zero q)
  refine ⟨?_, rfl, rfl, by simp, e5, g5, M.firF_mem e2⟩
  show (if (ls ++ ms).length = 0 then (([] : List UInt8), 2) else if 32 < (ls ++ ms).length then ([], 5) else if M.firF (ls ++ ms) = 0 then (0 :: M.allF (ls ++ ms), 0) else ([], M.firF (ls ++ ms))) = _
  rw [List.length_append, if_neg (by omega), if_neg (by omega), if_pos hf, M.allF_append]
  rfl
theorem M.parts_long {ls ms : List M.Fr} (h : 32 < ls.length + ms.length) : M.putF (ls ++ ms) = ([], 5) := by
  show (if (ls ++ ms).length = 0 then (([] : List UInt8), 2) else if 32 < (ls ++ ms).length then ([], 5) else if M.firF (ls ++ ms) = 0 then (0 :: M.allF (ls ++ ms), 0) else ([], M.firF (ls ++ ms))) = _
  rw [List.length_append, if_neg (by omega), if_pos h]
/-- The frame at a place, of a row that others stand behind. -/
theorem M.at_next {ls : List M.Fr} {X : List UInt8} {k : Nat} {f : M.Fr} (h : ls[k]? = some f) (hc : M.chkF f = 0) : M.leadE ((0 :: (M.allF ls ++ X)).drop (M.offF ls k)) = 0 ∧ M.ldF ((0 :: (M.allF ls ++ X)).drop (M.offF ls k)) = f ∧ M.nxN (M.offF ls k) ((0 :: (M.allF ls ++ X)).drop (M.offF ls k)) = M.offF ls (k + 1) := by
  obtain ⟨hk, hg⟩ := List.getElem?_eq_some_iff.1 h
  have e : (0 :: (M.allF ls ++ X)).drop (M.offF ls k) = M.bytF f ++ (M.allF (ls.drop (k + 1)) ++ X) := by
    unfold M.offF
    rw [Nat.add_comm, List.drop_succ_cons]
    have e1 : M.allF ls = M.allF (ls.take k) ++ (M.bytF f ++ M.allF (ls.drop (k + 1))) := by
      rw [← M.allF_cons, ← hg, ← List.drop_eq_getElem_cons hk, ← M.allF_append, List.take_append_drop]
    rw [e1, List.append_assoc, List.append_assoc, M.drop_at rfl]
  rw [e]
  obtain ⟨p1, _, p3, p4⟩ := M.lead_parts hc (M.allF (ls.drop (k + 1)) ++ X)
  refine ⟨p4, by unfold M.ldF; rw [if_pos p4, p3], ?_⟩
  unfold M.nxN
  rw [if_pos p4, p1, M.offF_next h hc]
  omega

set_option maxRecDepth 100000 in
set_option maxHeartbeats 16000000 in
theorem parts14_law (ls ms : List M.Fr) (a b : Option Addr) (ca cb : Nat) (w : World) (hL : Fs w w.heap.size ls (.slice a ls.length ca)) (hM : Fs w w.heap.size ms (.slice b ms.length cb)) (hna : a = none → ca = 0) (hnb : b = none → cb = 0) :
    Calls Try.prog 6 #[.slice a ls.length ca, .slice b ms.length cb] w fun e w' => e = .returned (.bool true) ∧ Below w.heap.size w w' := by
  have mixed : Try.prog.follows .mixedOrders = true := by kernel_rfl
  have HW := Lib.hid works14
  have HP1 := Lib.hid (fun W (h : Fs W W.heap.size ls (.slice a ls.length ca)) => fput_any ls a ca W h)
  have HP2 := Lib.hid (fun W (h : Fs W W.heap.size ms (.slice b ms.length cb)) => fput_any ms b cb W h)
  have HP3 := Lib.hid (fun oa c W (h : Fs W W.heap.size (ls ++ ms) (.slice oa (ls ++ ms).length c)) => fput_any (ls ++ ms) oa c W h)
  have HL := Lib.hid (fun W (h : Below w.heap.size w W) => hL.kept h)
  have HM := Lib.hid (fun W (h : Below w.heap.size w W) => hM.kept h)
  have HNA := Lib.hid hna
  have HNB := Lib.hid hnb
  obtain ⟨n6, hn6⟩ : ∃ n6, (ls ++ ms).length = n6 := ⟨_, rfl⟩
  rw [hn6] at HP3
  have HN6 := Lib.hid hn6
  obtain ⟨⟨s1, q1⟩, hr1⟩ : ∃ r, M.putF ls = r := ⟨_, rfl⟩
  obtain ⟨⟨s2, q2⟩, hr2⟩ : ∃ r, M.putF ms = r := ⟨_, rfl⟩
  obtain ⟨⟨s3, q3⟩, hr3⟩ : ∃ r, M.putF (ls ++ ms) = r := ⟨_, rfl⟩
  rw [hr1] at HP1
  rw [hr2] at HP2
  rw [hr3] at HP3
  have HR1 := Lib.hid hr1
  have HR2 := Lib.hid hr2
  have HR3 := Lib.hid hr3
  clear hL hM hna hnb hn6 hr1 hr2 hr3
  dsimp only at *
  go_enter Try.func6, Try.ntmps6
  go_wp2_with fail
  refine (HW.out _).mono ?_
  rintro e w1 ⟨rfl, b1⟩
  go_wp2_with fail
  refine (rfew14_any ls a ca w1 (HL.out _ b1)).mono ?_
  rintro e w1' ⟨⟨q, rfl, hq1⟩, rfl⟩
  cases q
  · go_wp2_with fail
    go_ret
    exact ⟨rfl, b1⟩
  have hl1 := hq1 rfl
  clear hq1
  go_wp2_with fail
  refine (rfew14_any ms b cb w1' (HM.out _ b1)).mono ?_
  rintro e w1 ⟨⟨q, rfl, hq2⟩, rfl⟩
  cases q
  · go_wp2_with fail
    go_ret
    exact ⟨rfl, b1⟩
  have hl2 := hq2 rfl
  clear hq2
  go_wp2_with fail
  refine (HP1.out _ (HL.out _ b1)).mono ?_
  rintro e w2 ⟨rfl, hb⟩
  have b2 := b1.trans (hb.mono b1.size)
  clear hb b1
  go_wp2_with fail
  refine (HP2.out _ (HM.out _ b2)).mono ?_
  rintro e w3 ⟨rfl, hb⟩
  have b3 := b2.trans (hb.mono b2.size)
  clear hb b2
  have hz3 := b3.size
  have b4 : Below w.heap.size w (w3.alloc (.cells #[] 24)) := b3.alloc hz3 _
  have HF4 := Lib.hid (HL.out _ b4)
  have HB4 := Lib.hid b4
  have HR4 := Lib.hid ((FrRow.lit0 w3).mono hz3)
  clear b4
  go_wp2_with (at_builtin; refine wpList_append_frs _ rfl _ _ rfl w.heap.size [] ls _ _ a ca rfl rfl HR4.out (by simp; omega) HB4.out.size HF4.out HNA.out ?_)
  intro v5 w5 hr5 hg5
  try rw [List.nil_append] at hr5
  have b5 : Below w.heap.size w w5 := HB4.out.grown hg5 HB4.out.size (fun k hk => (HR4.out.lt k hk).1)
  have HF5 := Lib.hid (HM.out _ b5)
  have HB5 := Lib.hid b5
  have HR5 := Lib.hid hr5
  clear hr5 hg5 b5 HF4 HB4 HR4
  go_wp2_with (at_builtin; refine wpList_append_frs w5 rfl _ _ rfl w.heap.size ls ms v5 _ b cb rfl rfl HR5.out (by omega) HB5.out.size HF5.out HNB.out ?_)
  intro v6 w6 hr6 hg6
  have b6 : Below w.heap.size w w6 := HB5.out.grown hg6 HB5.out.size (fun k hk => (HR5.out.lt k hk).1)
  obtain ⟨a6, c6, hv6⟩ := hr6.len
  rw [HN6.out] at hv6
  subst hv6
  have HF6 := Lib.hid hr6.fs
  clear hr6 hg6 HF5 HB5 HR5
  go_wp2_with fail
  refine (HP3.out _ _ _ HF6.out).mono ?_
  rintro e w7 ⟨rfl, hb⟩
  have b7 := b6.trans (hb.mono b6.size)
  clear hb b6 HF6 HP1 HP2 HP3 b3 hz3
  by_cases hq1 : q1 = 0
  · subst hq1
    by_cases hq2 : q2 = 0
    · subst hq2
      by_cases hs : 32 < ls.length + ms.length
      · have hs' : (32 : Int) < (ls.length : Int) + (ms.length : Int) := by omega
        have h3 := HR3.out
        rw [M.parts_long hs] at h3
        obtain ⟨rfl, rfl⟩ := Prod.mk.inj h3
        clear h3 hs
        go_wp2_with fail
        go_ret
        exact ⟨rfl, b7⟩
      · have hs' : ¬ (32 : Int) < (ls.length : Int) + (ms.length : Int) := by omega
        obtain ⟨p1, p2, p3, p4, p5, p6, p7⟩ := M.parts_ok HR1.out HR2.out (by omega)
        have h3 := HR3.out
        rw [p1] at h3
        obtain ⟨h3a, rfl⟩ := Prod.mk.inj h3
        have hd2 : (s2.drop 1).length ≤ 140000 := by rw [List.length_drop]; omega
        have hs1 : s1.length = M.offF ls ls.length := by
          rw [p2]
          unfold M.offF
          rw [List.take_length, List.length_cons, Nat.add_comm]
        have hs3 : s3 = 0 :: (M.allF ls ++ M.allF ms) := by rw [← h3a, p2, p3]; rfl
        have HAT := Lib.hid (fun k f => @M.at_next ls (M.allF ms) k f)
        rw [← hs3] at HAT
        have HS3 : Hid (s3.length ≤ 280000) := by rw [← h3a, List.length_append]; exact Lib.hid (by omega)
        have hle3 : M.offF ls ls.length ≤ s3.length := by rw [← h3a, List.length_append, ← hs1]; omega
        have hcmp : ((⟨s1.toArray⟩ : ByteArray) ++ (⟨s2.toArray⟩ : ByteArray).extract 1 s2.length).toList = s3 := by
          rw [cutS, List.take_length, cat_eq, h3a, ByteArray.toList_eq]
        have HOK := Lib.hid p7
        have HS1 := Lib.hid hs1
        have HLE := Lib.hid hle3
        have HON := Lib.hid (fun k f => @M.offF_next ls k f)
        have HOL := Lib.hid (M.offF_le ls)
        have p4' : ¬ (s2.length : Int) < 1 := by omega
        clear h3 h3a p1 p2 p3 p7 hs1 hs3 hle3 hs HR1 HR2 HR3
        go_wp2_with fail
        clear hcmp
        have hs0 : s1.length ≤ 140000 := p5
        go_loopw [13, 14, 15, 16, 17] (fun t i _ _ _ wr => ∃ k : Nat, k ≤ ls.length ∧ t = .int .i64 ((M.offF ls k : Nat) : Int) ∧ i = .int .i64 k ∧ Below w.heap.size w wr) (fun _ i _ _ _ _ => ls.length - (intOf i).toNat)
        case atStart => exact ⟨0, by omega, rfl, rfl, b7⟩
        case round =>
          obtain ⟨k, hk, rfl, rfl, hW⟩ := hrel
          by_cases hkl : k < ls.length
          · obtain ⟨g, o, f, rfl, hg, hf, c0, c1, c2, c3⟩ := (HL.out _ hW).at_ hkl
            have hfc := HOK.out f (List.mem_of_getElem? hf)
            obtain ⟨n1, n2, n3⟩ := HAT.out k f hf hfc
            have hnx := HON.out k f hf hfc
            have hol := HOL.out (k + 1)
            have hol0 := HOL.out k
            have hle := HLE.out
            have hs3 := HS3.out
            have hn0 := fun W => fnext_any s3 (M.offF ls k) W (by omega) (by omega)
            rw [n1, n2, n3] at hn0
            have HNX := Lib.hid hn0
            obtain ⟨n, hn⟩ : ∃ n, f.data.length = n := ⟨_, rfl⟩
            obtain ⟨q1, hq1⟩ : ∃ q1, M.offF ls k = q1 := ⟨_, rfl⟩
            obtain ⟨q2, hq2⟩ : ∃ q2, M.offF ls (k + 1) = q2 := ⟨_, rfl⟩
            rw [hn, hq1, hq2] at hnx
            rw [hq1, hq2] at HNX
            have hqb : q2 ≤ 280000 := by omega
            rw [hq1]
            have HQ2 := Lib.hid hq2
            have hk' : ((k : Nat) : Int) < (ls.length : Nat) := by omega
            have hn' : (f.data.length : Int) = (n : Nat) := by omega
            have hqe : (q1 : Int) + 23 + (n : Int) = (q2 : Nat) := by omega
            have hqw : True → wrap64 ((q1 : Int) + 23) = (q1 : Int) + 23 := fun _ => by unfold wrap64; omega
            have hqw2 : True → wrap64 ((q1 : Int) + 23 + (n : Int)) = (q1 : Int) + 23 + (n : Int) := fun _ => by unfold wrap64; omega
            have HLk := Lib.hid (fun W (h : Below wr.heap.size wr W) => (⟨(h.cell (p := ⟨g, o + k * 4, none⟩) hg).trans c0, (h.cell (p := ⟨g, o + k * 4 + 1, none⟩) hg).trans c1, (h.cell (p := ⟨g, o + k * 4 + 2, none⟩) hg).trans c2, (h.cell (p := ⟨g, o + k * 4 + 3, none⟩) hg).trans c3⟩ : W.cell? ⟨g, o + k * 4, none⟩ = some (.string ⟨f.id.toArray⟩) ∧ W.cell? ⟨g, o + k * 4 + 1, none⟩ = some (.int .i64 f.num) ∧ W.cell? ⟨g, o + k * 4 + 2, none⟩ = some (.string ⟨f.data.toArray⟩) ∧ W.cell? ⟨g, o + k * 4 + 3, none⟩ = some (.bool f.last)))
            clear hf hfc n1 n2 n3 hnx hol hol0 hle hs3 hn0 hq1 hq2 hn c0 c1 c2 c3 HAT HON HOL HLE HS3
            go_wp2_with fail
            refine (HNX.out _).mono ?_
            rintro e w8 ⟨rfl, hb8⟩
            have hx := FrBox.new w8 f 24
            obtain ⟨w9, hw9⟩ : ∃ w9, w8.alloc (.cells #[.string ⟨f.id.toArray⟩, .int .i64 f.num, .string ⟨f.data.toArray⟩, .bool f.last] 24) = w9 := ⟨_, rfl⟩
            have hb9 : Below wr.heap.size wr w9 := by rw [← hw9]; exact hb8.alloc hb8.size _
            rw [hw9] at hx
            obtain ⟨x0, x1, x2, x3⟩ := hx
            obtain ⟨c0, c1, c2, c3⟩ := HLk.out _ hb9
            have HW9 := Lib.hid hw9
            have b9 := hW.trans (hb9.mono hW.size)
            clear hw9 hb8 hb9
            go_wp2_with (rw [HW9.out])
            go_quiet (fail)
            go_wp2_with fail
            go_roundw
            case rel => exact ⟨k + 1, by omega, by rw [HQ2.out], by go_num, ⟨b9.os, b9.tape, b9.output, b9.size, b9.block⟩⟩
            case measure => simp [intOf]; omega
          · obtain rfl : k = ls.length := by omega
            have hk' : ¬ ((ls.length : Nat) : Int) < (ls.length : Nat) := by omega
            have hs1 := HS1.out
            have hs1' : ((M.offF ls ls.length : Nat) : Int) = (s1.length : Nat) := by omega
            go_wp2_with fail
            go_ret
            exact ⟨by simp, hW⟩
    · have hq2' : ¬ ((q2 : Nat) : Int) = 0 := by omega
      go_wp2_with fail
      go_ret
      exact ⟨rfl, b7⟩
  · have hq1' : ¬ ((q1 : Nat) : Int) = 0 := by omega
    go_wp2_with fail
    go_ret
    exact ⟨rfl, b7⟩
end Go.Proofs.Ytgeeoefcepjniaa
