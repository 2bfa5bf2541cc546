/- frame: read; written. -/
import Derived.Test.YtgeeoefcepjniaaJF1
import Derived.Laws.Bits64b
namespace Go.Proofs.Ytgeeoefcepjniaa
open Go Go.RowKit

theorem or_byteU {n : Nat} (c : UInt8) (h : n < 16777216) : bits BinOp.or IntKind.u64 ((n : Int) * 256) ((c.toNat : Nat) : Int) = ((n * 256 + c.toNat : Nat) : Int) := by
  have hc := c.toNat_lt
  have e1 : (n : Int) * 256 = ((n * 256 : Nat) : Int) := by omega
  rw [e1]
  have h1 : (BitVec.ofInt 64 ((n * 256 : Nat) : Int)).toNat = n * 256 := by
    rw [BitVec.ofInt_natCast, BitVec.toNat_ofNat]; exact Nat.mod_eq_of_lt (by omega)
  have h2 : (BitVec.ofInt 64 ((c.toNat : Nat) : Int)).toNat = c.toNat := by
    rw [BitVec.ofInt_natCast, BitVec.toNat_ofNat]; exact Nat.mod_eq_of_lt (by omega)
  have h3 : n * 256 ||| c.toNat = n * 256 + c.toNat := by
    have := Nat.shiftLeft_add_eq_or_of_lt (i := 8) (b := c.toNat) (by omega) n
    rw [Nat.shiftLeft_eq] at this
    rw [← this]
  show IntKind.u64.wrap ((BitVec.ofInt 64 ((n * 256 : Nat) : Int) ||| BitVec.ofInt 64 ((c.toNat : Nat) : Int)).toNat : Int) = _
  rw [BitVec.toNat_or, h1, h2, h3]
  show ((n * 256 + c.toNat : Nat) : Int) % (2 ^ 64 : Int) = _
  omega

set_option maxRecDepth 100000 in
set_option maxHeartbeats 4000000 in
theorem fread_any (ds : List UInt8) (w : World) (hl : ds.length ≤ 4) : Calls Try.prog 29 #[.string ⟨ds.toArray⟩] w fun e w' => e = .returned (.int .u64 (M.dg ds : Nat)) ∧ Below w.heap.size w w' := by
  go_enter Try.func29, Try.ntmps29
  go_wp2_with (refine wpList_seal _ rfl _ _ 5 _ rfl ⟨ds.toArray⟩ rfl Try.underlying9 Try.underlying45 Try.underlying5 (by simp [ByteArray.size]; unfold maxLen; omega) ?_; intro cap cur w2 hSeal)
  have hsr := hSeal.sr
  have hlow := hSeal.low
  have hcells : ∀ j u, (bc ds)[j]? = some u → w2.cell? ⟨w.heap.size, j, none⟩ = some u := by
    intro j u hj
    rcases hsr with ⟨h0, h1⟩ | ⟨ad, c, hv, hc⟩
    · cases h0
    · obtain rfl : ad = ⟨w.heap.size, 0, none⟩ := by cases hv; rfl
      have := hc j u hj
      rwa [addr_addF] at this
  clear hsr hSeal
  go_loopw [3, 9] (fun n i wr => ∃ k : Nat, k ≤ ds.length ∧ i = .int .i64 k ∧ n = .int .u64 ((M.dg (ds.take k) : Nat) : Int) ∧ wr = w2) (fun _ i _ => ds.length - (intOf i).toNat)
  case atStart => exact ⟨0, by omega, rfl, rfl, rfl⟩
  case round =>
    obtain ⟨k, hk, rfl, rfl, rfl⟩ := hrel
    by_cases hlt : k < ds.length
    · obtain ⟨c, hc⟩ : ∃ c, ds[k]? = some c := ⟨ds[k], List.getElem?_eq_getElem (by omega)⟩
      have hcell := hcells k (.int .u8 (c.toNat : Int)) (by simp [bc, hc])
      have hdg : M.dg (ds.take k) < 16777216 := Nat.lt_of_lt_of_le (M.dg_lt _) (by
        rw [List.length_take]
        calc 256 ^ (min k ds.length) ≤ 256 ^ 3 := Nat.pow_le_pow_right (by omega) (by omega)
          _ = 16777216 := by decide)
      have hor := or_byteU c hdg
      have hstep : M.dg (ds.take k) * 256 + c.toNat = M.dg (ds.take (k + 1)) := by
        rw [List.take_add_one, hc]
        exact (M.dg_snoc _ _).symm
      rw [hstep] at hor
      generalize M.dg (ds.take k) = n at *
      obtain ⟨n', hn'⟩ : ∃ n', n' = M.dg (ds.take (k + 1)) := ⟨_, rfl⟩
      rw [← hn'] at hor
      clear hstep
      have hk' : ((k : Nat) : Int) < (ds.length : Nat) := by omega
      have hcu : IntKind.u64.wrap ((c.toNat : Nat) : Int) = ((c.toNat : Nat) : Int) := by
        have := c.toNat_lt
        show ((c.toNat : Nat) : Int) % (2 ^ 64 : Int) = _
        omega
      have hsu : IntKind.u64.wrap ((n : Int) * 256) = (n : Int) * 256 := by
        show ((n : Int) * 256) % (2 ^ 64 : Int) = _
        omega
      go_wp2_with fail
      go_roundw
      case rel => exact ⟨k + 1, by omega, rfl, rfl, trivial⟩
      case measure => simp [intOf]; omega
    · obtain rfl : k = ds.length := by omega
      rw [List.take_of_length_le (by omega)]
      go_wp2_with fail
      go_ret
      exact ⟨rfl, hlow⟩

theorem Ow.convA {B : Nat} {l : List UInt8} {v : Value} {w : World} (h : Ow B l v w) (hne : l ≠ []) : (convert 45 9 v).run Try.prog w = .ok (.string ⟨l.toArray⟩) w := by
  have h' := h
  rcases h.2 with ⟨_, h1⟩ | ⟨g, cap, cur, rfl, hB, hg, h1⟩
  · exact absurd (List.eq_nil_of_length_eq_zero h1) hne
  · refine run_convert_bytes_back w 45 9 5 ⟨g, 0, none⟩ cap l Try.underlying45 Try.underlying5 Try.underlying9 ?_
    intro j hj
    exact World.ownsRow.cells h' (g := g) rfl j _ (by simp [bc, hj])
theorem Ow.not_ty {B : Nat} {l : List UInt8} {v : Value} {w : World} (h : Ow B l v w) {b : Nat} {cs : Array Value} {t : TypeId} {z : Nat × Nat} (hb : w.heap[b]? = some (.cells cs t z)) (ht : t ≠ 5) : some b ≠ v.ownBlock := fun e => by
  rcases h.2 with ⟨rfl, _⟩ | ⟨g, cap, cur, rfl, _, hg, _⟩
  · cases e
  · cases e
    rw [hg] at hb
    cases hb
    exact ht rfl
/-- Numbers in widths, in memory. -/
def c2n (p : Nat × Nat) : List Value := [.int .i64 (p.1 : Nat), .int .i64 (p.2 : Nat)]
def M.wrN (xs : List (Nat × Nat)) : List UInt8 := xs.flatMap fun p => M.be p.2 p.1
theorem M.wrN_snoc (xs : List (Nat × Nat)) (p : Nat × Nat) : M.wrN (xs ++ [p]) = M.wrN xs ++ M.be p.2 p.1 := by simp [M.wrN]
theorem M.wrN_len (xs : List (Nat × Nat)) (h : ∀ p ∈ xs, p.2 ≤ 4) : (M.wrN xs).length ≤ 4 * xs.length := by
  induction xs with
  | nil => simp [M.wrN]
  | cons p xs ih =>
    have h1 := h p (by simp)
    have h2 := ih fun q hq => h q (by simp [hq])
    have e : M.wrN (p :: xs) = M.be p.2 p.1 ++ M.wrN xs := by simp [M.wrN]
    rw [e, List.length_append, M.be_length, List.length_cons]
    omega
theorem M.be_step {k i N : Nat} (h : i < k) : M.be (i + 1) (N / 256 ^ (k - (i + 1))) = M.be i (N / 256 ^ (k - i)) ++ [UInt8.ofNat (N / 256 ^ (k - (i + 1)) % 256)] := by
  show M.be i (N / 256 ^ (k - (i + 1)) / 256) ++ _ = _
  rw [Nat.div_div_eq_div_mul, ← Nat.pow_succ, show (k - (i + 1)).succ = k - i by omega]
theorem pow_cast (d : Nat) : (2 : Int) ^ (8 * d) = ((256 ^ d : Nat) : Int) := by
  rw [Int.pow_mul, Int.natCast_pow]
  rfl
theorem shr_byte {N d : Nat} (b : UInt8) (hb : b = UInt8.ofNat (N / 256 ^ d % 256)) : (N : Int) / 2 ^ (8 * d) % 256 = ((b.toNat : Nat) : Int) := by
  have e : (N : Int) / (2 ^ (8 * d)) = ((N / 256 ^ d : Nat) : Int) := by
    rw [pow_cast]
    rfl
  rw [e, hb, UInt8.toNat_ofNat_of_lt' (by show N / 256 ^ d % 256 < 2 ^ 8; omega)]
  generalize N / 256 ^ d = q
  omega

set_option maxRecDepth 100000 in
set_option maxHeartbeats 4000000 in
theorem fwritten_any (xs : List (Nat × Nat)) (g cap : Nat) (w : World) (hg : g < w.heap.size) (hx : ∀ p ∈ xs, p.1 < 4294967296 ∧ p.2 ≤ 4) (hn : xs.length ≤ 4) (hne : M.wrN xs ≠ [])
    (hc : ∀ i p, xs[i]? = some p → w.cell? ⟨g, i * 2, none⟩ = some (.int .i64 (p.1 : Nat)) ∧ w.cell? ⟨g, i * 2 + 1, none⟩ = some (.int .i64 (p.2 : Nat))) :
    Calls Try.prog 19 #[.slice (some ⟨g, 0, none⟩) xs.length cap] w fun e w' => e = .returned (.string ⟨(M.wrN xs).toArray⟩) ∧ Below w.heap.size w w' := by
  obtain ⟨B, hB⟩ : ∃ B, w.heap.size = B := ⟨_, rfl⟩
  rw [hB] at hg ⊢
  go_enter Try.func19, Try.ntmps19
  go_wp2_with fail
  go_loopw [3, 5, 6, 9] (fun v _ _ i wr => ∃ k : Nat, k ≤ xs.length ∧ i = .int .i64 k ∧ Ow B (M.wrN (xs.take k)) v wr ∧ Below B w wr) (fun _ _ _ i _ => xs.length - (intOf i).toNat)
  case atStart => exact ⟨0, by omega, rfl, Ow.nil _ _, Below.refl _ _⟩
  case round =>
    obtain ⟨k, hk, rfl, ho, hW⟩ := hrel
    by_cases hlt : k < xs.length
    · obtain ⟨⟨N, q⟩, hp⟩ : ∃ p, xs[k]? = some p := ⟨xs[k], List.getElem?_eq_getElem hlt⟩
      have hr := hx _ (List.mem_of_getElem? hp)
      obtain ⟨hc0, hc1⟩ := hc k _ hp
      dsimp only at hr hc0 hc1
      have d0 := (hW.cell (p := ⟨g, k * 2, none⟩) hg).trans hc0
      have d1 := (hW.cell (p := ⟨g, k * 2 + 1, none⟩) hg).trans hc1
      have hk' : ((k : Nat) : Int) < (xs.length : Nat) := by omega
      have hz := hW.size
      obtain ⟨w1, hw1⟩ : ∃ w1, wr.alloc (.cells #[.int .i64 (N : Nat), .int .i64 (q : Nat)] 42) = w1 := ⟨_, rfl⟩
      have b1 : Below B w w1 := by rw [← hw1]; exact hW.alloc (by omega) _
      have n0 : w1.cell? ⟨wr.heap.size, 0, none⟩ = some (.int .i64 (N : Nat)) := by rw [← hw1]; simp [go_sem]
      have n1 : w1.cell? ⟨wr.heap.size, 1, none⟩ = some (.int .i64 (q : Nat)) := by rw [← hw1]; simp [go_sem]
      have hz1 : wr.heap.size < w1.heap.size := by rw [← hw1]; simp
      have hT1 : w1.heap[wr.heap.size]? = some (.cells #[.int .i64 (N : Nat), .int .i64 (q : Nat)] 42 (0, 0)) := by rw [← hw1]; exact heap_alloc_new wr _
      have ho1 := ho.from_ (W := w1) (by rw [← hw1]; exact (Below.refl _ _).alloc (Nat.le_refl _) _)
      have HW1 := Lib.hid hw1
      clear hw1 ho
      have HK := Lib.hid hp
      have hz4 := b1.size
      rw [hB] at hz4
      clear hp
      obtain ⟨h1, h2⟩ := hr
      go_wp2_with (rw [HW1.out])
      clear d0 d1
      generalize wr.heap.size = b0 at *
      go_loopw [3, 6, 15] (fun v _ i w3 => ∃ j : Nat, j ≤ q ∧ i = .int .i64 j ∧ Ow B (M.wrN (xs.take k) ++ M.be j (N / 256 ^ (q - j))) v w3 ∧ Below B w w3 ∧ w3.heap[b0]? = w1.heap[b0]?) (fun _ _ i _ => q - (intOf i).toNat)
      case atStart => exact ⟨0, by omega, rfl, by simpa [M.be] using ho1, b1, rfl⟩
      case round =>
        obtain ⟨j, hj, rfl, ho, hW3, hk3⟩ := hrel
        by_cases hjq : j < q
        · have hstep := M.be_step (N := N) hjq
          obtain ⟨c, hcc⟩ : ∃ c, c = UInt8.ofNat (N / 256 ^ (q - 1 - j) % 256) := ⟨_, rfl⟩
          have hby := shr_byte c hcc
          rw [show q - (j + 1) = q - 1 - j by omega, ← hcc] at hstep
          have hjq' : ((j : Nat) : Int) < (q : Nat) := by omega
          have m0 := (World.cell?_of_block (a := ⟨b0, 0, none⟩) hk3).trans n0
          have m1 := (World.cell?_of_block (a := ⟨b0, 1, none⟩) hk3).trans n1
          have hz3 := hW3.size
          rw [hB] at hz3
          have hnb : some b0 ≠ u3.ownBlock := ho.not_ty (hk3.trans hT1) (by decide)
          have hb0s : b0 < wr.heap.size := (Array.getElem?_eq_some_iff.1 (hk3.trans hT1)).1
          have hnew : M.wrN (xs.take k) ++ M.be (j + 1) (N / 256 ^ (q - (j + 1))) = M.wrN (xs.take k) ++ M.be j (N / 256 ^ (q - j)) ++ [c] := by
            rw [show q - (j + 1) = q - 1 - j by omega, hstep, List.append_assoc]
          have hll : (M.wrN (xs.take k) ++ M.be j (N / 256 ^ (q - j))).length ≤ 1000 := by
            rw [List.length_append, M.be_length]
            have := M.wrN_len (xs.take k) (fun p hp => (hx p (List.mem_of_mem_take hp)).2)
            rw [List.length_take] at this
            omega
          have HN := Lib.hid hnew
          have HL := Lib.hid hll
          generalize M.wrN (xs.take k) ++ M.be j (N / 256 ^ (q - j)) = l at *
          clear hcc hstep hnew hll
          go_wp2_with (at_builtin; refine wpList_append_ow _ rfl _ _ rfl B l [c] u3 _ rfl rfl (ho.from_ ((Below.refl _ _).alloc (Nat.le_refl _) _)) (Ow.lit wr c).sr (by have := HL.out; simp; omega) (by simp; omega) ?_; intro v5 w5 ho5 hb5 hg5)
          go_roundw
          case rel =>
            refine ⟨j + 1, by omega, by go_num, by rw [HN.out]; exact ho5, (hW3.alloc hz3 _).trans hb5, ?_⟩
            exact (hg5.block b0 (by simp; omega) hnb).trans ((Below.heap_alloc _ _ _ (by omega)).trans hk3)
          case measure => simp [intOf]; omega
        · obtain rfl : j = q := by omega
          have hj0 : ¬ ((j : Nat) : Int) < (j : Nat) := by omega
          have e : M.wrN (xs.take k) ++ M.be j N = M.wrN (xs.take (k + 1)) := by
            rw [List.take_add_one, HK.out]
            exact (M.wrN_snoc _ (N, j)).symm
          rw [Nat.sub_self, Nat.pow_zero, Nat.div_one, e] at ho
          clear e
          go_wp2_with fail
          refine ⟨⟨k + 1, by omega, by go_num, ho, hW3⟩, ?_⟩
          simp [intOf]
          omega
    · obtain rfl : k = xs.length := by omega
      rw [List.take_of_length_le (by omega)] at ho
      have hcv := ho.convA hne
      go_wp2_with (rw [hcv])
      go_ret
      exact ⟨rfl, hW⟩
end Go.Proofs.Ytgeeoefcepjniaa
