/- RlpShort. -/
import Derived.Test.YtkhhjgnpfindiaaDoorE5
namespace Go.Proofs.YtkhhjgnpfindiaaDoor
open Go Go.RowKit

theorem idx_at {l : List UInt8} {k : Nat} {c : UInt8} (h : l[k]? = some c) : ∀ hk : k < (⟨l.toArray⟩ : ByteArray).size, (⟨l.toArray⟩ : ByteArray)[k]'hk = c := fun hk => by
  obtain ⟨h1, h2⟩ := List.getElem?_eq_some_iff.1 h
  show l.toArray[k] = c
  simpa using h2

theorem wrap_byte (c : UInt8) : wrap64 ((c.toNat : Nat) : Int) = ((c.toNat : Nat) : Int) := by
  have := c.toNat_lt
  unfold wrap64
  omega

set_option maxRecDepth 100000 in
set_option maxHeartbeats 8000000 in
theorem short_law (b : List UInt8) (w : World) :
    Calls Tryd.prog 7 #[.string ⟨b.toArray⟩] w fun e w' => e = .returned (.bool true) ∧ Below w.heap.size w w' := by
  by_cases h3 : 3000 < b.length
  · go_enter Tryd.func7, Tryd.ntmps7
    go_wp2_with fail
    refine (works_any _).mono ?_
    rintro e w1 ⟨rfl, hb1⟩
    go_wp2_with fail
    go_ret
    exact ⟨rfl, hb1⟩
  · have hck := M.check_short (b := b) (by omega)
    have hle := (M.checkI_ok.1 hck).2
    have K : ∀ W, Calls Tryd.prog 13 #[.agg #[.bool false, .string ⟨b.toArray⟩, .slice none 0 0]] W fun e w' => e = .returned (.tuple #[.string ⟨(M.bytesI (.mk false b [])).toArray⟩, .int .i64 0]) ∧ Below W.heap.size W w' := fun W => by
      have := encode_any false b [] (.slice none 0 0) W (.nil_ (by decide)) (by decide) (by omega)
      rwa [M.encode_ok hck] at this
    clear hck hle
    by_cases h1 : b.length = 1 ∧ (b.headD 0).toNat < 128
    · obtain ⟨c, rfl, hc⟩ := M.short_first h1
      have e := M.short_one (b := [c]) rfl hc
      rw [e] at K
      clear e h1 h3
      have HK := Lib.hid K
      clear K
      have hx : (⟨#[c]⟩ : ByteArray)[0]'(Nat.one_pos) = c := rfl
      go_enter Tryd.func7, Tryd.ntmps7
      go_wp2_with fail
      refine (works_any _).mono ?_
      rintro e w1 ⟨rfl, hb1⟩
      go_wp2_with fail
      refine (HK.out _).mono ?_
      rintro e w2 ⟨rfl, hb2⟩
      go_wp2_with fail
      go_ret
      exact ⟨rfl, hb1.trans (hb2.mono hb1.size)⟩
    · by_cases h56 : b.length < 56
      · have e := M.short_55 h1 h56
        obtain ⟨c, hc⟩ : ∃ c : UInt8, c = UInt8.ofNat (128 + b.length) := ⟨_, rfl⟩
        have hcn : c.toNat = 128 + b.length := by rw [hc]; exact ofNat_at (by omega)
        rw [e, ← hc] at K
        obtain ⟨sl, hs⟩ : ∃ sl, sl = c :: b := ⟨_, rfl⟩
        rw [← hs] at K
        have hl : sl.length = b.length + 1 := by rw [hs]; rfl
        have hsp : 0 < sl.length := by rw [hl]; omega
        have hz : (⟨sl.toArray⟩ : ByteArray).size = sl.length := rfl
        have hg0 : 0 < (⟨sl.toArray⟩ : ByteArray).size := by rw [hz, hl]; omega
        have hx1 : (⟨sl.toArray⟩ : ByteArray)[0]'hg0 = c := idx_at (by rw [hs]; rfl) _
        have hcut : (((⟨sl.toArray⟩ : ByteArray).extract 1 sl.length).toList == b) = true := by rw [cutb, hs]; simp
        have hq1 : ((sl.length : Int) == (b.length : Int) + 1) = true := by rw [beq_iff_eq]; omega
        have hq2 : ((c.toNat : Int) == 128 + (b.length : Int)) = true := by rw [beq_iff_eq]; omega
        have hsq : 1 ≤ sl.length := by omega
        clear e hc hs hcn
        have HK := Lib.hid K
        have HL := Lib.hid hl
        clear K hl
        by_cases hb1 : b.length = 1
        · obtain ⟨c2, rfl⟩ := List.length_eq_one_iff.1 hb1
          have hx3 : (⟨#[c2]⟩ : ByteArray)[0]'(Nat.one_pos) = c2 := rfl
          have h128 : 128 ≤ c2.toNat := by simp at h1; omega
          have hq1' : ((sl.length : Int) == 2) = true := hq1
          have hwc : wrap64 ((c.toNat : Nat) : Int) = 129 := by rw [wrap_byte]; simpa using hq2
          clear h1 hq1 hq2
          go_enter Tryd.func7, Tryd.ntmps7
          go_wp2_with fail
          refine (works_any _).mono ?_
          rintro e w1 ⟨rfl, hb1⟩
          go_wp2_with fail
          refine (HK.out _).mono ?_
          rintro e w2 ⟨rfl, hb2⟩
          go_wp2_with fail
          go_ret
          exact ⟨rfl, hb1.trans (hb2.mono hb1.size)⟩
        · have hn1 : ((b.length : Int) == 1) = false := beq_eq_false_iff_ne.2 (by omega)
          have hwc := wrap_byte c
          clear h1
          go_enter Tryd.func7, Tryd.ntmps7
          go_wp2_with fail
          refine (works_any _).mono ?_
          rintro e w1 ⟨rfl, hb1⟩
          go_wp2_with fail
          refine (HK.out _).mono ?_
          rintro e w2 ⟨rfl, hb2⟩
          go_wp2_with fail
          go_ret
          exact ⟨rfl, hb1.trans (hb2.mono hb1.size)⟩
      · have hn1 : ((b.length : Int) == 1) = false := beq_eq_false_iff_ne.2 (by omega)
        by_cases h256 : b.length < 256
        · have e := M.short_255 (b := b) (by omega) h256
          obtain ⟨c, hc⟩ : ∃ c : UInt8, c = UInt8.ofNat b.length := ⟨_, rfl⟩
          have hcn : c.toNat = b.length := by rw [hc]; exact ofNat_at (by omega)
          rw [e, ← hc] at K
          obtain ⟨sl, hs⟩ : ∃ sl, sl = 184 :: c :: b := ⟨_, rfl⟩
          rw [← hs] at K
          have hl : sl.length = b.length + 2 := by rw [hs]; rfl
          have hsp : 1 < sl.length := by rw [hl]; omega
          have hz : (⟨sl.toArray⟩ : ByteArray).size = sl.length := rfl
          have hg0 : 0 < (⟨sl.toArray⟩ : ByteArray).size := by rw [hz, hl]; omega
          have hg1 : 1 < (⟨sl.toArray⟩ : ByteArray).size := by rw [hz, hl]; omega
          have hx1 : (⟨sl.toArray⟩ : ByteArray)[0]'hg0 = 184 := idx_at (by rw [hs]; rfl) _
          have hx2 : (⟨sl.toArray⟩ : ByteArray)[1]'hg1 = c := idx_at (by rw [hs]; rfl) _
          have hcut : (((⟨sl.toArray⟩ : ByteArray).extract 2 sl.length).toList == b) = true := by rw [cutb, hs]; simp
          have hq1 : ((sl.length : Int) == (b.length : Int) + 2) = true := by rw [beq_iff_eq]; omega
          have hq2 : ((c.toNat : Int) == (b.length : Int)) = true := by rw [beq_iff_eq]; omega
          have hsq : 2 ≤ sl.length := by omega
          have hwc := wrap_byte c
          clear e hc hs hcn h1
          have HK := Lib.hid K
          have HL := Lib.hid hl
          clear K hl
          go_enter Tryd.func7, Tryd.ntmps7
          go_wp2_with fail
          refine (works_any _).mono ?_
          rintro e w1 ⟨rfl, hb1⟩
          go_wp2_with fail
          refine (HK.out _).mono ?_
          rintro e w2 ⟨rfl, hb2⟩
          go_wp2_with fail
          go_ret
          exact ⟨rfl, hb1.trans (hb2.mono hb1.size)⟩
        · have e := M.short_long (b := b) (by omega) (by omega)
          obtain ⟨c, hc⟩ : ∃ c : UInt8, c = UInt8.ofNat (b.length / 256) := ⟨_, rfl⟩
          obtain ⟨c2, hc2⟩ : ∃ c2 : UInt8, c2 = UInt8.ofNat (b.length % 256) := ⟨_, rfl⟩
          have hcn : c.toNat = b.length / 256 := by rw [hc]; exact ofNat_at (by omega)
          have hcn2 : c2.toNat = b.length % 256 := by rw [hc2]; exact ofNat_at (by omega)
          rw [e, ← hc, ← hc2] at K
          obtain ⟨sl, hs⟩ : ∃ sl, sl = 185 :: c :: c2 :: b := ⟨_, rfl⟩
          rw [← hs] at K
          have hl : sl.length = b.length + 3 := by rw [hs]; rfl
          have hsp : 2 < sl.length := by rw [hl]; omega
          have hz : (⟨sl.toArray⟩ : ByteArray).size = sl.length := rfl
          have hg0 : 0 < (⟨sl.toArray⟩ : ByteArray).size := by rw [hz, hl]; omega
          have hg1 : 1 < (⟨sl.toArray⟩ : ByteArray).size := by rw [hz, hl]; omega
          have hg2 : 2 < (⟨sl.toArray⟩ : ByteArray).size := by rw [hz, hl]; omega
          have hx1 : (⟨sl.toArray⟩ : ByteArray)[0]'hg0 = 185 := idx_at (by rw [hs]; rfl) _
          have hx2 : (⟨sl.toArray⟩ : ByteArray)[1]'hg1 = c := idx_at (by rw [hs]; rfl) _
          have hx3 : (⟨sl.toArray⟩ : ByteArray)[2]'hg2 = c2 := idx_at (by rw [hs]; rfl) _
          have hcut : (((⟨sl.toArray⟩ : ByteArray).extract 3 sl.length).toList == b) = true := by rw [cutb, hs]; simp
          have hq1 : ((sl.length : Int) == (b.length : Int) + 3) = true := by rw [beq_iff_eq]; omega
          have hq2 : ((c.toNat : Int) * 256 + (c2.toNat : Int) == (b.length : Int)) = true := by rw [beq_iff_eq]; omega
          have hcl := c.toNat_lt
          have hcl2 := c2.toNat_lt
          have hsq : 3 ≤ sl.length := by omega
          have hwc := wrap_byte c
          have hwc2 := wrap_byte c2
          clear e hc hc2 hs hcn hcn2 h1
          have HK := Lib.hid K
          have HL := Lib.hid hl
          clear K hl
          go_enter Tryd.func7, Tryd.ntmps7
          go_wp2_with fail
          refine (works_any _).mono ?_
          rintro e w1 ⟨rfl, hb1⟩
          go_wp2_with fail
          refine (HK.out _).mono ?_
          rintro e w2 ⟨rfl, hb2⟩
          go_wp2_with fail
          have mixed : Tryd.prog.follows .mixedOrders = true := by kernel_rfl
          go_quiet (fail)
          go_wp2_with fail
          go_ret
          exact ⟨rfl, (hb1.trans (hb2.mono hb1.size)).trans ⟨rfl, rfl, rfl, Nat.le_refl _, fun _ _ => rfl⟩⟩
end Go.Proofs.YtkhhjgnpfindiaaDoor
