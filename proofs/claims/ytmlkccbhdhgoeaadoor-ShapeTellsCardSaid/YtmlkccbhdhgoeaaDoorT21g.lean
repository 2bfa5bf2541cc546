/- The example of layer 7, walked. -/
import Derived.Test.YtmlkccbhdhgoeaaDoorT20g
namespace Go.Proofs.YtmlkccbhdhgoeaaDoor
open Go Go.RowKit

theorem ex_k1 : M.chkT 0 (.mk 3 3 [M.two]) = 0 := by decide +kernel
theorem ex_k2 : M.fixedT (.mk 3 3 [M.two]) = true := by decide +kernel
theorem ex_k3 : M.sizeT (.mk 3 3 [M.two]) = 6 := by decide +kernel
theorem ex_k4 : M.fixedT (.mk 4 2 [M.two]) = false := by decide +kernel
theorem ex_k5 : M.sizeT (.mk 4 2 [M.two]) = 0 := by decide +kernel
theorem ex_k6 : M.fitsV (.mk 3 3 [M.two]) (.mk 0 [] (List.replicate 3 M.one) 0) = 0 := by decide +kernel
theorem ex_k7 : M.fitsV (.mk 4 2 [M.two]) (.mk 0 [] (List.replicate 3 M.one) 0) = 5 := by decide +kernel
theorem ex_k8 : M.fitsV M.two (.mk 65536 [] [] 0) = 2 := by decide +kernel
theorem ex_k9 : M.fitsV (.mk 8 0 [M.two, .mk 4 2 [M.two]]) (.mk 0 [] [.mk 0 [] [M.one] 0] 1) = 0 := by decide +kernel
theorem ex_k10 : M.chkT 0 (.mk 0 0 []) = 9 := by decide +kernel
theorem ex_k11 : M.chkT 0 (.mk 1 3 []) = 2 := by decide +kernel
theorem ex_k12 : M.sameV (.mk 0 [] (List.replicate 3 M.one) 0) (.mk 0 [] (List.replicate 3 M.one) 0) = true := by decide +kernel
theorem ex_k13 : M.sameV (.mk 0 [] (List.replicate 3 M.one) 0) (.mk 0 [] [.mk 0 [] [M.one] 0] 1) = false := by decide +kernel

set_option maxRecDepth 100000 in
set_option maxHeartbeats 16000000 in
theorem sworks (HS : Hid Shapes) (w : World) : Calls Tryd.prog 8 #[] w fun e w' => e = .returned (.bool true) ∧ Below w.heap.size w w' := by
  obtain ⟨w1, hw1⟩ : ∃ w1, w.alloc (.cells #[.int .i64 1, .int .i64 2, .slice none 0 0] 24) = w1 := ⟨_, rfl⟩
  have hz1 : w1.heap.size = w.heap.size + 1 := by rw [← hw1]; simp
  have hB1 : Below w.heap.size w w1 := by rw [← hw1]; exact (Below.refl _ _).alloc (Nat.le_refl _) _
  have n0 : w1.heap[w.heap.size]? = some (.cells #[.int .i64 1, .int .i64 2, .slice none 0 0] 24 (0, 0)) := by
    have := heap_alloc_new w (.cells #[.int .i64 1, .int .i64 2, .slice none 0 0] 24)
    rwa [hw1] at this
  obtain ⟨w2, hw2⟩ : ∃ w2, w1.alloc (.cells #[.int .i64 1, .int .i64 2, .slice none 0 0] 24) = w2 := ⟨_, rfl⟩
  have hz2 : w2.heap.size = w.heap.size + 2 := by rw [← hw2]; simp; omega
  have hB2 : Below w1.heap.size w1 w2 := by rw [← hw2]; exact (Below.refl _ _).alloc (Nat.le_refl _) _
  have n1 : w2.heap[w.heap.size + 1]? = some (.cells #[.int .i64 1, .int .i64 2, .slice none 0 0] 24 (0, 0)) := by
    have := heap_alloc_new w1 (.cells #[.int .i64 1, .int .i64 2, .slice none 0 0] 24)
    rw [hz1, show w.heap.size + 1 = w.heap.size + 1 by omega] at this
    rwa [hw2] at this
  obtain ⟨w3, hw3⟩ : ∃ w3, w2.alloc (.cells #[.int .i64 3, .int .i64 3, .slice (some ⟨w.heap.size + 1, 0, none⟩) 1 1] 24) = w3 := ⟨_, rfl⟩
  have hz3 : w3.heap.size = w.heap.size + 3 := by rw [← hw3]; simp; omega
  have hB3 : Below w2.heap.size w2 w3 := by rw [← hw3]; exact (Below.refl _ _).alloc (Nat.le_refl _) _
  have n2 : w3.heap[w.heap.size + 1 + 1]? = some (.cells #[.int .i64 3, .int .i64 3, .slice (some ⟨w.heap.size + 1, 0, none⟩) 1 1] 24 (0, 0)) := by
    have := heap_alloc_new w2 (.cells #[.int .i64 3, .int .i64 3, .slice (some ⟨w.heap.size + 1, 0, none⟩) 1 1] 24)
    rw [hz2, show w.heap.size + 2 = w.heap.size + 1 + 1 by omega] at this
    rwa [hw3] at this
  obtain ⟨w4, hw4⟩ : ∃ w4, w3.alloc (.cells #[.int .i64 1, .int .i64 2, .slice none 0 0] 24) = w4 := ⟨_, rfl⟩
  have hz4 : w4.heap.size = w.heap.size + 4 := by rw [← hw4]; simp; omega
  have hB4 : Below w3.heap.size w3 w4 := by rw [← hw4]; exact (Below.refl _ _).alloc (Nat.le_refl _) _
  have n3 : w4.heap[w.heap.size + 1 + 1 + 1]? = some (.cells #[.int .i64 1, .int .i64 2, .slice none 0 0] 24 (0, 0)) := by
    have := heap_alloc_new w3 (.cells #[.int .i64 1, .int .i64 2, .slice none 0 0] 24)
    rw [hz3, show w.heap.size + 3 = w.heap.size + 1 + 1 + 1 by omega] at this
    rwa [hw4] at this
  obtain ⟨w5, hw5⟩ : ∃ w5, w4.alloc (.cells #[.int .i64 4, .int .i64 2, .slice (some ⟨w.heap.size + 1 + 1 + 1, 0, none⟩) 1 1] 24) = w5 := ⟨_, rfl⟩
  have hz5 : w5.heap.size = w.heap.size + 5 := by rw [← hw5]; simp; omega
  have hB5 : Below w4.heap.size w4 w5 := by rw [← hw5]; exact (Below.refl _ _).alloc (Nat.le_refl _) _
  have n4 : w5.heap[w.heap.size + 1 + 1 + 1 + 1]? = some (.cells #[.int .i64 4, .int .i64 2, .slice (some ⟨w.heap.size + 1 + 1 + 1, 0, none⟩) 1 1] 24 (0, 0)) := by
    have := heap_alloc_new w4 (.cells #[.int .i64 4, .int .i64 2, .slice (some ⟨w.heap.size + 1 + 1 + 1, 0, none⟩) 1 1] 24)
    rw [hz4, show w.heap.size + 4 = w.heap.size + 1 + 1 + 1 + 1 by omega] at this
    rwa [hw5] at this
  obtain ⟨w6, hw6⟩ : ∃ w6, w5.alloc (.cells #[.int .u64 258, .int .u64 0, .int .u64 0, .int .u64 0, .slice none 0 0, .slice none 0 0, .int .i64 0] 31) = w6 := ⟨_, rfl⟩
  have hz6 : w6.heap.size = w.heap.size + 6 := by rw [← hw6]; simp; omega
  have hB6 : Below w5.heap.size w5 w6 := by rw [← hw6]; exact (Below.refl _ _).alloc (Nat.le_refl _) _
  have n5 : w6.heap[w.heap.size + 1 + 1 + 1 + 1 + 1]? = some (.cells #[.int .u64 258, .int .u64 0, .int .u64 0, .int .u64 0, .slice none 0 0, .slice none 0 0, .int .i64 0] 31 (0, 0)) := by
    have := heap_alloc_new w5 (.cells #[.int .u64 258, .int .u64 0, .int .u64 0, .int .u64 0, .slice none 0 0, .slice none 0 0, .int .i64 0] 31)
    rw [hz5, show w.heap.size + 5 = w.heap.size + 1 + 1 + 1 + 1 + 1 by omega] at this
    rwa [hw6] at this
  obtain ⟨w7, hw7⟩ : ∃ w7, w6.alloc (.cells #[.int .u64 258, .int .u64 0, .int .u64 0, .int .u64 0, .slice none 0 0, .slice none 0 0, .int .i64 0, .int .u64 258, .int .u64 0, .int .u64 0, .int .u64 0, .slice none 0 0, .slice none 0 0, .int .i64 0, .int .u64 258, .int .u64 0, .int .u64 0, .int .u64 0, .slice none 0 0, .slice none 0 0, .int .i64 0] 31) = w7 := ⟨_, rfl⟩
  have hz7 : w7.heap.size = w.heap.size + 7 := by rw [← hw7]; simp; omega
  have hB7 : Below w6.heap.size w6 w7 := by rw [← hw7]; exact (Below.refl _ _).alloc (Nat.le_refl _) _
  have n6 : w7.heap[w.heap.size + 1 + 1 + 1 + 1 + 1 + 1]? = some (.cells #[.int .u64 258, .int .u64 0, .int .u64 0, .int .u64 0, .slice none 0 0, .slice none 0 0, .int .i64 0, .int .u64 258, .int .u64 0, .int .u64 0, .int .u64 0, .slice none 0 0, .slice none 0 0, .int .i64 0, .int .u64 258, .int .u64 0, .int .u64 0, .int .u64 0, .slice none 0 0, .slice none 0 0, .int .i64 0] 31 (0, 0)) := by
    have := heap_alloc_new w6 (.cells #[.int .u64 258, .int .u64 0, .int .u64 0, .int .u64 0, .slice none 0 0, .slice none 0 0, .int .i64 0, .int .u64 258, .int .u64 0, .int .u64 0, .int .u64 0, .slice none 0 0, .slice none 0 0, .int .i64 0, .int .u64 258, .int .u64 0, .int .u64 0, .int .u64 0, .slice none 0 0, .slice none 0 0, .int .i64 0] 31)
    rw [hz6, show w.heap.size + 6 = w.heap.size + 1 + 1 + 1 + 1 + 1 + 1 by omega] at this
    rwa [hw7] at this
  obtain ⟨w8, hw8⟩ : ∃ w8, w7.alloc (.cells #[.int .u64 0, .int .u64 0, .int .u64 0, .int .u64 0, .slice none 0 0, .slice (some ⟨w.heap.size + 1 + 1 + 1 + 1 + 1 + 1, 0, none⟩) 3 3, .int .i64 0] 31) = w8 := ⟨_, rfl⟩
  have hz8 : w8.heap.size = w.heap.size + 8 := by rw [← hw8]; simp; omega
  have hB8 : Below w7.heap.size w7 w8 := by rw [← hw8]; exact (Below.refl _ _).alloc (Nat.le_refl _) _
  have n7 : w8.heap[w.heap.size + 1 + 1 + 1 + 1 + 1 + 1 + 1]? = some (.cells #[.int .u64 0, .int .u64 0, .int .u64 0, .int .u64 0, .slice none 0 0, .slice (some ⟨w.heap.size + 1 + 1 + 1 + 1 + 1 + 1, 0, none⟩) 3 3, .int .i64 0] 31 (0, 0)) := by
    have := heap_alloc_new w7 (.cells #[.int .u64 0, .int .u64 0, .int .u64 0, .int .u64 0, .slice none 0 0, .slice (some ⟨w.heap.size + 1 + 1 + 1 + 1 + 1 + 1, 0, none⟩) 3 3, .int .i64 0] 31)
    rw [hz7, show w.heap.size + 7 = w.heap.size + 1 + 1 + 1 + 1 + 1 + 1 + 1 by omega] at this
    rwa [hw8] at this
  obtain ⟨w9, hw9⟩ : ∃ w9, w8.alloc (.cells #[.int .i64 1, .int .i64 2, .slice none 0 0, .int .i64 4, .int .i64 2, .slice (some ⟨w.heap.size + 1 + 1 + 1, 0, none⟩) 1 1] 24) = w9 := ⟨_, rfl⟩
  have hz9 : w9.heap.size = w.heap.size + 9 := by rw [← hw9]; simp; omega
  have hB9 : Below w8.heap.size w8 w9 := by rw [← hw9]; exact (Below.refl _ _).alloc (Nat.le_refl _) _
  have n8 : w9.heap[w.heap.size + 1 + 1 + 1 + 1 + 1 + 1 + 1 + 1]? = some (.cells #[.int .i64 1, .int .i64 2, .slice none 0 0, .int .i64 4, .int .i64 2, .slice (some ⟨w.heap.size + 1 + 1 + 1, 0, none⟩) 1 1] 24 (0, 0)) := by
    have := heap_alloc_new w8 (.cells #[.int .i64 1, .int .i64 2, .slice none 0 0, .int .i64 4, .int .i64 2, .slice (some ⟨w.heap.size + 1 + 1 + 1, 0, none⟩) 1 1] 24)
    rw [hz8, show w.heap.size + 8 = w.heap.size + 1 + 1 + 1 + 1 + 1 + 1 + 1 + 1 by omega] at this
    rwa [hw9] at this
  obtain ⟨w10, hw10⟩ : ∃ w10, w9.alloc (.cells #[.int .i64 8, .int .i64 0, .slice (some ⟨w.heap.size + 1 + 1 + 1 + 1 + 1 + 1 + 1 + 1, 0, none⟩) 2 2] 24) = w10 := ⟨_, rfl⟩
  have hz10 : w10.heap.size = w.heap.size + 10 := by rw [← hw10]; simp; omega
  have hB10 : Below w9.heap.size w9 w10 := by rw [← hw10]; exact (Below.refl _ _).alloc (Nat.le_refl _) _
  have n9 : w10.heap[w.heap.size + 1 + 1 + 1 + 1 + 1 + 1 + 1 + 1 + 1]? = some (.cells #[.int .i64 8, .int .i64 0, .slice (some ⟨w.heap.size + 1 + 1 + 1 + 1 + 1 + 1 + 1 + 1, 0, none⟩) 2 2] 24 (0, 0)) := by
    have := heap_alloc_new w9 (.cells #[.int .i64 8, .int .i64 0, .slice (some ⟨w.heap.size + 1 + 1 + 1 + 1 + 1 + 1 + 1 + 1, 0, none⟩) 2 2] 24)
    rw [hz9, show w.heap.size + 9 = w.heap.size + 1 + 1 + 1 + 1 + 1 + 1 + 1 + 1 + 1 by omega] at this
    rwa [hw10] at this
  obtain ⟨w11, hw11⟩ : ∃ w11, w10.alloc (.cells #[.int .u64 258, .int .u64 0, .int .u64 0, .int .u64 0, .slice none 0 0, .slice none 0 0, .int .i64 0] 31) = w11 := ⟨_, rfl⟩
  have hz11 : w11.heap.size = w.heap.size + 11 := by rw [← hw11]; simp; omega
  have hB11 : Below w10.heap.size w10 w11 := by rw [← hw11]; exact (Below.refl _ _).alloc (Nat.le_refl _) _
  have n10 : w11.heap[w.heap.size + 1 + 1 + 1 + 1 + 1 + 1 + 1 + 1 + 1 + 1]? = some (.cells #[.int .u64 258, .int .u64 0, .int .u64 0, .int .u64 0, .slice none 0 0, .slice none 0 0, .int .i64 0] 31 (0, 0)) := by
    have := heap_alloc_new w10 (.cells #[.int .u64 258, .int .u64 0, .int .u64 0, .int .u64 0, .slice none 0 0, .slice none 0 0, .int .i64 0] 31)
    rw [hz10, show w.heap.size + 10 = w.heap.size + 1 + 1 + 1 + 1 + 1 + 1 + 1 + 1 + 1 + 1 by omega] at this
    rwa [hw11] at this
  obtain ⟨w12, hw12⟩ : ∃ w12, w11.alloc (.cells #[.int .u64 0, .int .u64 0, .int .u64 0, .int .u64 0, .slice none 0 0, .slice (some ⟨w.heap.size + 1 + 1 + 1 + 1 + 1 + 1 + 1 + 1 + 1 + 1, 0, none⟩) 1 1, .int .i64 0] 31) = w12 := ⟨_, rfl⟩
  have hz12 : w12.heap.size = w.heap.size + 12 := by rw [← hw12]; simp; omega
  have hB12 : Below w11.heap.size w11 w12 := by rw [← hw12]; exact (Below.refl _ _).alloc (Nat.le_refl _) _
  have n11 : w12.heap[w.heap.size + 1 + 1 + 1 + 1 + 1 + 1 + 1 + 1 + 1 + 1 + 1]? = some (.cells #[.int .u64 0, .int .u64 0, .int .u64 0, .int .u64 0, .slice none 0 0, .slice (some ⟨w.heap.size + 1 + 1 + 1 + 1 + 1 + 1 + 1 + 1 + 1 + 1, 0, none⟩) 1 1, .int .i64 0] 31 (0, 0)) := by
    have := heap_alloc_new w11 (.cells #[.int .u64 0, .int .u64 0, .int .u64 0, .int .u64 0, .slice none 0 0, .slice (some ⟨w.heap.size + 1 + 1 + 1 + 1 + 1 + 1 + 1 + 1 + 1 + 1, 0, none⟩) 1 1, .int .i64 0] 31)
    rw [hz11, show w.heap.size + 11 = w.heap.size + 1 + 1 + 1 + 1 + 1 + 1 + 1 + 1 + 1 + 1 + 1 by omega] at this
    rwa [hw12] at this
  obtain ⟨w13, hw13⟩ : ∃ w13, w12.alloc (.cells #[.int .u64 0, .int .u64 0, .int .u64 0, .int .u64 0, .slice none 0 0, .slice (some ⟨w.heap.size + 1 + 1 + 1 + 1 + 1 + 1 + 1 + 1 + 1 + 1 + 1, 0, none⟩) 1 1, .int .i64 1] 31) = w13 := ⟨_, rfl⟩
  have hz13 : w13.heap.size = w.heap.size + 13 := by rw [← hw13]; simp; omega
  have hB13 : Below w12.heap.size w12 w13 := by rw [← hw13]; exact (Below.refl _ _).alloc (Nat.le_refl _) _
  have n12 : w13.heap[w.heap.size + 1 + 1 + 1 + 1 + 1 + 1 + 1 + 1 + 1 + 1 + 1 + 1]? = some (.cells #[.int .u64 0, .int .u64 0, .int .u64 0, .int .u64 0, .slice none 0 0, .slice (some ⟨w.heap.size + 1 + 1 + 1 + 1 + 1 + 1 + 1 + 1 + 1 + 1 + 1, 0, none⟩) 1 1, .int .i64 1] 31 (0, 0)) := by
    have := heap_alloc_new w12 (.cells #[.int .u64 0, .int .u64 0, .int .u64 0, .int .u64 0, .slice none 0 0, .slice (some ⟨w.heap.size + 1 + 1 + 1 + 1 + 1 + 1 + 1 + 1 + 1 + 1 + 1, 0, none⟩) 1 1, .int .i64 1] 31)
    rw [hz12, show w.heap.size + 12 = w.heap.size + 1 + 1 + 1 + 1 + 1 + 1 + 1 + 1 + 1 + 1 + 1 + 1 by omega] at this
    rwa [hw13] at this
  have R0 : w13.heap[w.heap.size]? = _ := (hB13.block _ (by omega)).trans ((hB12.block _ (by omega)).trans ((hB11.block _ (by omega)).trans ((hB10.block _ (by omega)).trans ((hB9.block _ (by omega)).trans ((hB8.block _ (by omega)).trans ((hB7.block _ (by omega)).trans ((hB6.block _ (by omega)).trans ((hB5.block _ (by omega)).trans ((hB4.block _ (by omega)).trans ((hB3.block _ (by omega)).trans ((hB2.block _ (by omega)).trans (n0))))))))))))
  have R1 : w13.heap[w.heap.size + 1]? = _ := (hB13.block _ (by omega)).trans ((hB12.block _ (by omega)).trans ((hB11.block _ (by omega)).trans ((hB10.block _ (by omega)).trans ((hB9.block _ (by omega)).trans ((hB8.block _ (by omega)).trans ((hB7.block _ (by omega)).trans ((hB6.block _ (by omega)).trans ((hB5.block _ (by omega)).trans ((hB4.block _ (by omega)).trans ((hB3.block _ (by omega)).trans (n1)))))))))))
  have R2 : w13.heap[w.heap.size + 1 + 1]? = _ := (hB13.block _ (by omega)).trans ((hB12.block _ (by omega)).trans ((hB11.block _ (by omega)).trans ((hB10.block _ (by omega)).trans ((hB9.block _ (by omega)).trans ((hB8.block _ (by omega)).trans ((hB7.block _ (by omega)).trans ((hB6.block _ (by omega)).trans ((hB5.block _ (by omega)).trans ((hB4.block _ (by omega)).trans (n2))))))))))
  have R3 : w13.heap[w.heap.size + 1 + 1 + 1]? = _ := (hB13.block _ (by omega)).trans ((hB12.block _ (by omega)).trans ((hB11.block _ (by omega)).trans ((hB10.block _ (by omega)).trans ((hB9.block _ (by omega)).trans ((hB8.block _ (by omega)).trans ((hB7.block _ (by omega)).trans ((hB6.block _ (by omega)).trans ((hB5.block _ (by omega)).trans (n3)))))))))
  have R4 : w13.heap[w.heap.size + 1 + 1 + 1 + 1]? = _ := (hB13.block _ (by omega)).trans ((hB12.block _ (by omega)).trans ((hB11.block _ (by omega)).trans ((hB10.block _ (by omega)).trans ((hB9.block _ (by omega)).trans ((hB8.block _ (by omega)).trans ((hB7.block _ (by omega)).trans ((hB6.block _ (by omega)).trans (n4))))))))
  have R5 : w13.heap[w.heap.size + 1 + 1 + 1 + 1 + 1]? = _ := (hB13.block _ (by omega)).trans ((hB12.block _ (by omega)).trans ((hB11.block _ (by omega)).trans ((hB10.block _ (by omega)).trans ((hB9.block _ (by omega)).trans ((hB8.block _ (by omega)).trans ((hB7.block _ (by omega)).trans (n5)))))))
  have R6 : w13.heap[w.heap.size + 1 + 1 + 1 + 1 + 1 + 1]? = _ := (hB13.block _ (by omega)).trans ((hB12.block _ (by omega)).trans ((hB11.block _ (by omega)).trans ((hB10.block _ (by omega)).trans ((hB9.block _ (by omega)).trans ((hB8.block _ (by omega)).trans (n6))))))
  have R7 : w13.heap[w.heap.size + 1 + 1 + 1 + 1 + 1 + 1 + 1]? = _ := (hB13.block _ (by omega)).trans ((hB12.block _ (by omega)).trans ((hB11.block _ (by omega)).trans ((hB10.block _ (by omega)).trans ((hB9.block _ (by omega)).trans (n7)))))
  have R8 : w13.heap[w.heap.size + 1 + 1 + 1 + 1 + 1 + 1 + 1 + 1]? = _ := (hB13.block _ (by omega)).trans ((hB12.block _ (by omega)).trans ((hB11.block _ (by omega)).trans ((hB10.block _ (by omega)).trans (n8))))
  have R9 : w13.heap[w.heap.size + 1 + 1 + 1 + 1 + 1 + 1 + 1 + 1 + 1]? = _ := (hB13.block _ (by omega)).trans ((hB12.block _ (by omega)).trans ((hB11.block _ (by omega)).trans (n9)))
  have R10 : w13.heap[w.heap.size + 1 + 1 + 1 + 1 + 1 + 1 + 1 + 1 + 1 + 1]? = _ := (hB13.block _ (by omega)).trans ((hB12.block _ (by omega)).trans (n10))
  have R11 : w13.heap[w.heap.size + 1 + 1 + 1 + 1 + 1 + 1 + 1 + 1 + 1 + 1 + 1]? = _ := (hB13.block _ (by omega)).trans (n11)
  have R12 : w13.heap[w.heap.size + 1 + 1 + 1 + 1 + 1 + 1 + 1 + 1 + 1 + 1 + 1 + 1]? = _ := n12
  have c0_13_0 : w13.cell? ⟨w.heap.size, 0, none⟩ = some (.int .i64 1) := by simp [World.cell?, R0]
  have c0_13_1 : w13.cell? ⟨w.heap.size, 1, none⟩ = some (.int .i64 2) := by simp [World.cell?, R0]
  have c0_13_2 : w13.cell? ⟨w.heap.size, 2, none⟩ = some (.slice none 0 0) := by simp [World.cell?, R0]
  have c2_13_0 : w13.cell? ⟨w.heap.size + 1 + 1, 0, none⟩ = some (.int .i64 3) := by simp [World.cell?, R2]
  have c2_13_1 : w13.cell? ⟨w.heap.size + 1 + 1, 1, none⟩ = some (.int .i64 3) := by simp [World.cell?, R2]
  have c2_13_2 : w13.cell? ⟨w.heap.size + 1 + 1, 2, none⟩ = some (.slice (some ⟨w.heap.size + 1, 0, none⟩) 1 1) := by simp [World.cell?, R2]
  have c4_13_0 : w13.cell? ⟨w.heap.size + 1 + 1 + 1 + 1, 0, none⟩ = some (.int .i64 4) := by simp [World.cell?, R4]
  have c4_13_1 : w13.cell? ⟨w.heap.size + 1 + 1 + 1 + 1, 1, none⟩ = some (.int .i64 2) := by simp [World.cell?, R4]
  have c4_13_2 : w13.cell? ⟨w.heap.size + 1 + 1 + 1 + 1, 2, none⟩ = some (.slice (some ⟨w.heap.size + 1 + 1 + 1, 0, none⟩) 1 1) := by simp [World.cell?, R4]
  have c7_13_0 : w13.cell? ⟨w.heap.size + 1 + 1 + 1 + 1 + 1 + 1 + 1, 0, none⟩ = some (.int .u64 0) := by simp [World.cell?, R7]
  have c7_13_1 : w13.cell? ⟨w.heap.size + 1 + 1 + 1 + 1 + 1 + 1 + 1, 1, none⟩ = some (.int .u64 0) := by simp [World.cell?, R7]
  have c7_13_2 : w13.cell? ⟨w.heap.size + 1 + 1 + 1 + 1 + 1 + 1 + 1, 2, none⟩ = some (.int .u64 0) := by simp [World.cell?, R7]
  have c7_13_3 : w13.cell? ⟨w.heap.size + 1 + 1 + 1 + 1 + 1 + 1 + 1, 3, none⟩ = some (.int .u64 0) := by simp [World.cell?, R7]
  have c7_13_4 : w13.cell? ⟨w.heap.size + 1 + 1 + 1 + 1 + 1 + 1 + 1, 4, none⟩ = some (.slice none 0 0) := by simp [World.cell?, R7]
  have c7_13_5 : w13.cell? ⟨w.heap.size + 1 + 1 + 1 + 1 + 1 + 1 + 1, 5, none⟩ = some (.slice (some ⟨w.heap.size + 1 + 1 + 1 + 1 + 1 + 1, 0, none⟩) 3 3) := by simp [World.cell?, R7]
  have c7_13_6 : w13.cell? ⟨w.heap.size + 1 + 1 + 1 + 1 + 1 + 1 + 1, 6, none⟩ = some (.int .i64 0) := by simp [World.cell?, R7]
  have c9_13_0 : w13.cell? ⟨w.heap.size + 1 + 1 + 1 + 1 + 1 + 1 + 1 + 1 + 1, 0, none⟩ = some (.int .i64 8) := by simp [World.cell?, R9]
  have c9_13_1 : w13.cell? ⟨w.heap.size + 1 + 1 + 1 + 1 + 1 + 1 + 1 + 1 + 1, 1, none⟩ = some (.int .i64 0) := by simp [World.cell?, R9]
  have c9_13_2 : w13.cell? ⟨w.heap.size + 1 + 1 + 1 + 1 + 1 + 1 + 1 + 1 + 1, 2, none⟩ = some (.slice (some ⟨w.heap.size + 1 + 1 + 1 + 1 + 1 + 1 + 1 + 1, 0, none⟩) 2 2) := by simp [World.cell?, R9]
  have c12_13_0 : w13.cell? ⟨w.heap.size + 1 + 1 + 1 + 1 + 1 + 1 + 1 + 1 + 1 + 1 + 1 + 1, 0, none⟩ = some (.int .u64 0) := by simp [World.cell?, R12]
  have c12_13_1 : w13.cell? ⟨w.heap.size + 1 + 1 + 1 + 1 + 1 + 1 + 1 + 1 + 1 + 1 + 1 + 1, 1, none⟩ = some (.int .u64 0) := by simp [World.cell?, R12]
  have c12_13_2 : w13.cell? ⟨w.heap.size + 1 + 1 + 1 + 1 + 1 + 1 + 1 + 1 + 1 + 1 + 1 + 1, 2, none⟩ = some (.int .u64 0) := by simp [World.cell?, R12]
  have c12_13_3 : w13.cell? ⟨w.heap.size + 1 + 1 + 1 + 1 + 1 + 1 + 1 + 1 + 1 + 1 + 1 + 1, 3, none⟩ = some (.int .u64 0) := by simp [World.cell?, R12]
  have c12_13_4 : w13.cell? ⟨w.heap.size + 1 + 1 + 1 + 1 + 1 + 1 + 1 + 1 + 1 + 1 + 1 + 1, 4, none⟩ = some (.slice none 0 0) := by simp [World.cell?, R12]
  have c12_13_5 : w13.cell? ⟨w.heap.size + 1 + 1 + 1 + 1 + 1 + 1 + 1 + 1 + 1 + 1 + 1 + 1, 5, none⟩ = some (.slice (some ⟨w.heap.size + 1 + 1 + 1 + 1 + 1 + 1 + 1 + 1 + 1 + 1 + 1, 0, none⟩) 1 1) := by simp [World.cell?, R12]
  have c12_13_6 : w13.cell? ⟨w.heap.size + 1 + 1 + 1 + 1 + 1 + 1 + 1 + 1 + 1 + 1 + 1 + 1, 6, none⟩ = some (.int .i64 1) := by simp [World.cell?, R12]
  have hwB : Below w.heap.size w w13 := hB1.trans ((hB2.trans ((hB3.trans ((hB4.trans ((hB5.trans ((hB6.trans ((hB7.trans ((hB8.trans ((hB9.trans ((hB10.trans ((hB11.trans ((hB12.trans ((hB13).mono (by omega))).mono (by omega))).mono (by omega))).mono (by omega))).mono (by omega))).mono (by omega))).mono (by omega))).mono (by omega))).mono (by omega))).mono (by omega))).mono (by omega))).mono (by omega))
  have t1 : ∀ W, Below w13.heap.size w13 W → LayT W W.heap.size [M.two] (.slice (some ⟨w.heap.size + 1, 0, none⟩) 1 1) := fun W h => row_one ((h.block _ (by omega)).trans R1) (by have := h.size; omega)
  have t3 : ∀ W, Below w13.heap.size w13 W → LayT W W.heap.size [M.two] (.slice (some ⟨w.heap.size + 1 + 1 + 1, 0, none⟩) 1 1) := fun W h => row_one ((h.block _ (by omega)).trans R3) (by have := h.size; omega)
  have t8 : ∀ W, Below w13.heap.size w13 W → LayT W W.heap.size [M.two, .mk 4 2 [M.two]] (.slice (some ⟨w.heap.size + 1 + 1 + 1 + 1 + 1 + 1 + 1 + 1, 0, none⟩) 2 2) := fun W h => row_two ((h.block _ (by omega)).trans R8) (by have := h.size; omega) (t3 W h)
  have v6 : ∀ W, Below w13.heap.size w13 W → LayV W W.heap.size (List.replicate 3 M.one) (.slice (some ⟨w.heap.size + 1 + 1 + 1 + 1 + 1 + 1, 0, none⟩) 3 3) := fun W h => vals_of ((h.block _ (by omega)).trans R6) (by have := h.size; omega) (by decide) (fun i hi => by match i, hi with | 0, _ => exact ⟨rfl, rfl, rfl, rfl, rfl, rfl, rfl⟩ | 1, _ => exact ⟨rfl, rfl, rfl, rfl, rfl, rfl, rfl⟩ | 2, _ => exact ⟨rfl, rfl, rfl, rfl, rfl, rfl, rfl⟩)
  have v10 : ∀ W, Below w13.heap.size w13 W → LayV W W.heap.size (List.replicate 1 M.one) (.slice (some ⟨w.heap.size + 1 + 1 + 1 + 1 + 1 + 1 + 1 + 1 + 1 + 1, 0, none⟩) 1 1) := fun W h => vals_of ((h.block _ (by omega)).trans R10) (by have := h.size; omega) (by decide) (fun i hi => by match i, hi with | 0, _ => exact ⟨rfl, rfl, rfl, rfl, rfl, rfl, rfl⟩)
  have v11 : ∀ W, Below w13.heap.size w13 W → LayV W W.heap.size [.mk 0 [] [M.one] 0] (.slice (some ⟨w.heap.size + 1 + 1 + 1 + 1 + 1 + 1 + 1 + 1 + 1 + 1 + 1, 0, none⟩) 1 1) := fun W h => val_in ((h.block _ (by omega)).trans R11) (by have := h.size; omega) (v10 W h)
  have vl7 : ∀ W, Below w13.heap.size w13 W → Vl W W.heap.size 0 [] (List.replicate 3 M.one) none 0 (some ⟨w.heap.size + 1 + 1 + 1 + 1 + 1 + 1, 0, none⟩) 3 := fun W h => ⟨by unfold M.In; omega, .nil_ (by decide), v6 W h⟩
  have vl12 : ∀ W, Below w13.heap.size w13 W → Vl W W.heap.size 0 [] [.mk 0 [] [M.one] 0] none 0 (some ⟨w.heap.size + 1 + 1 + 1 + 1 + 1 + 1 + 1 + 1 + 1 + 1 + 1, 0, none⟩) 1 := fun W h => ⟨by unfold M.In; omega, .nil_ (by decide), v11 W h⟩
  have k1 : Hid (∀ W, Below w13.heap.size w13 W → Calls Tryd.prog 14 #[.agg #[.int .i64 3, .int .i64 3, .slice (some ⟨w.heap.size + 1, 0, none⟩) 1 1]] W fun e w' => e = .returned (.int .i64 0) ∧ Below W.heap.size W w') := fun W h => by
    have := HS.out.check 3 3 [M.two] _ 1 W (t1 W h) (by decide +kernel)
    rw [ex_k1] at this
    exact this
  have k2 : Hid (∀ W, Below w13.heap.size w13 W → Calls Tryd.prog 15 #[.agg #[.int .i64 3, .int .i64 3, .slice (some ⟨w.heap.size + 1, 0, none⟩) 1 1]] W fun e w' => e = .returned (.bool true) ∧ Below W.heap.size W w') := fun W h => by
    have := HS.out.fixed_ 3 3 [M.two] _ 1 W (t1 W h) (by decide +kernel)
    rw [ex_k2] at this
    exact this
  have k3 : Hid (∀ W, Below w13.heap.size w13 W → Calls Tryd.prog 16 #[.agg #[.int .i64 3, .int .i64 3, .slice (some ⟨w.heap.size + 1, 0, none⟩) 1 1]] W fun e w' => e = .returned (.int .i64 6) ∧ Below W.heap.size W w') := fun W h => by
    have := HS.out.size 3 3 [M.two] _ 1 W (t1 W h) (by decide +kernel)
    rw [ex_k3] at this
    exact this
  have k4 : Hid (∀ W, Below w13.heap.size w13 W → Calls Tryd.prog 15 #[.agg #[.int .i64 4, .int .i64 2, .slice (some ⟨w.heap.size + 1 + 1 + 1, 0, none⟩) 1 1]] W fun e w' => e = .returned (.bool false) ∧ Below W.heap.size W w') := fun W h => by
    have := HS.out.fixed_ 4 2 [M.two] _ 1 W (t3 W h) (by decide +kernel)
    rw [ex_k4] at this
    exact this
  have k5 : Hid (∀ W, Below w13.heap.size w13 W → Calls Tryd.prog 16 #[.agg #[.int .i64 4, .int .i64 2, .slice (some ⟨w.heap.size + 1 + 1 + 1, 0, none⟩) 1 1]] W fun e w' => e = .returned (.int .i64 0) ∧ Below W.heap.size W w') := fun W h => by
    have := HS.out.size 4 2 [M.two] _ 1 W (t3 W h) (by decide +kernel)
    rw [ex_k5] at this
    exact this
  have k6 : Hid (∀ W, Below w13.heap.size w13 W → Calls Tryd.prog 19 #[.agg #[.int .i64 3, .int .i64 3, .slice (some ⟨w.heap.size + 1, 0, none⟩) 1 1], .agg #[.int .u64 0, .int .u64 0, .int .u64 0, .int .u64 0, .slice none 0 0, .slice (some ⟨w.heap.size + 1 + 1 + 1 + 1 + 1 + 1, 0, none⟩) 3 3, .int .i64 0]] W fun e w' => e = .returned (.int .i64 0) ∧ Below W.heap.size W w') := fun W h => by
    have := HS.out.fits 3 3 [M.two] _ 1 0 [] (List.replicate 3 M.one) 0 none 0 _ 3 W (t1 W h) (vl7 W h) (by decide +kernel) (by decide +kernel)
    rw [ex_k6, vv_0] at this
    exact this
  have k7 : Hid (∀ W, Below w13.heap.size w13 W → Calls Tryd.prog 19 #[.agg #[.int .i64 4, .int .i64 2, .slice (some ⟨w.heap.size + 1 + 1 + 1, 0, none⟩) 1 1], .agg #[.int .u64 0, .int .u64 0, .int .u64 0, .int .u64 0, .slice none 0 0, .slice (some ⟨w.heap.size + 1 + 1 + 1 + 1 + 1 + 1, 0, none⟩) 3 3, .int .i64 0]] W fun e w' => e = .returned (.int .i64 5) ∧ Below W.heap.size W w') := fun W h => by
    have := HS.out.fits 4 2 [M.two] _ 1 0 [] (List.replicate 3 M.one) 0 none 0 _ 3 W (t3 W h) (vl7 W h) (by decide +kernel) (by decide +kernel)
    rw [ex_k7, vv_0] at this
    exact this
  have k8 : Hid (∀ W, Below w13.heap.size w13 W → Calls Tryd.prog 19 #[.agg #[.int .i64 1, .int .i64 2, .slice none 0 0], .agg #[.int .u64 65536, .int .u64 0, .int .u64 0, .int .u64 0, .slice none 0 0, .slice none 0 0, .int .i64 0]] W fun e w' => e = .returned (.int .i64 2) ∧ Below W.heap.size W w') := fun W h => by
    have := HS.out.fits 1 2 [] none 0 65536 [] [] 0 none 0 none 0 W (.nil_ (by decide)) ⟨by unfold M.In; omega, .nil_ (by decide), .nil_ (by decide)⟩ (by decide +kernel) (by decide +kernel)
    rw [show M.fitsV (.mk 1 2 []) (.mk 65536 [] [] 0) = 2 from ex_k8, vv_65536] at this
    exact this
  have k9 : Hid (∀ W, Below w13.heap.size w13 W → Calls Tryd.prog 19 #[.agg #[.int .i64 8, .int .i64 0, .slice (some ⟨w.heap.size + 1 + 1 + 1 + 1 + 1 + 1 + 1 + 1, 0, none⟩) 2 2], .agg #[.int .u64 0, .int .u64 0, .int .u64 0, .int .u64 0, .slice none 0 0, .slice (some ⟨w.heap.size + 1 + 1 + 1 + 1 + 1 + 1 + 1 + 1 + 1 + 1 + 1, 0, none⟩) 1 1, .int .i64 1]] W fun e w' => e = .returned (.int .i64 0) ∧ Below W.heap.size W w') := fun W h => by
    have := HS.out.fits 8 0 [M.two, .mk 4 2 [M.two]] _ 2 0 [] [.mk 0 [] [M.one] 0] 1 none 0 _ 1 W (t8 W h) (vl12 W h) (by decide +kernel) (by decide +kernel)
    rw [ex_k9, vv_0] at this
    exact this
  have k10 : Hid (∀ W, Below w13.heap.size w13 W → Calls Tryd.prog 14 #[.agg #[.int .i64 0, .int .i64 0, .slice none 0 0]] W fun e w' => e = .returned (.int .i64 9) ∧ Below W.heap.size W w') := fun W h => by
    have := HS.out.check 0 0 [] none 0 W (.nil_ (by decide)) (by decide +kernel)
    rw [ex_k10] at this
    exact this
  have k11 : Hid (∀ W, Below w13.heap.size w13 W → Calls Tryd.prog 14 #[.agg #[.int .i64 1, .int .i64 3, .slice none 0 0]] W fun e w' => e = .returned (.int .i64 2) ∧ Below W.heap.size W w') := fun W h => by
    have := HS.out.check 1 3 [] none 0 W (.nil_ (by decide)) (by decide +kernel)
    rw [ex_k11] at this
    exact this
  have k12 : Hid (∀ W, Below w13.heap.size w13 W → Calls Tryd.prog 17 #[.agg #[.int .u64 0, .int .u64 0, .int .u64 0, .int .u64 0, .slice none 0 0, .slice (some ⟨w.heap.size + 1 + 1 + 1 + 1 + 1 + 1, 0, none⟩) 3 3, .int .i64 0], .agg #[.int .u64 0, .int .u64 0, .int .u64 0, .int .u64 0, .slice none 0 0, .slice (some ⟨w.heap.size + 1 + 1 + 1 + 1 + 1 + 1, 0, none⟩) 3 3, .int .i64 0]] W fun e w' => e = .returned (.bool true) ∧ Below W.heap.size W w') := fun W h => by
    have := HS.out.same 0 [] (List.replicate 3 M.one) 0 none 0 _ 3 0 [] (List.replicate 3 M.one) 0 none 0 _ 3 W (vl7 W h) (vl7 W h) (by decide +kernel) (by decide +kernel)
    rw [ex_k12, vv_0] at this
    exact this
  have k13 : Hid (∀ W, Below w13.heap.size w13 W → Calls Tryd.prog 17 #[.agg #[.int .u64 0, .int .u64 0, .int .u64 0, .int .u64 0, .slice none 0 0, .slice (some ⟨w.heap.size + 1 + 1 + 1 + 1 + 1 + 1, 0, none⟩) 3 3, .int .i64 0], .agg #[.int .u64 0, .int .u64 0, .int .u64 0, .int .u64 0, .slice none 0 0, .slice (some ⟨w.heap.size + 1 + 1 + 1 + 1 + 1 + 1 + 1 + 1 + 1 + 1 + 1, 0, none⟩) 1 1, .int .i64 1]] W fun e w' => e = .returned (.bool false) ∧ Below W.heap.size W w') := fun W h => by
    have := HS.out.same 0 [] (List.replicate 3 M.one) 0 none 0 _ 3 0 [] [.mk 0 [] [M.one] 0] 1 none 0 _ 1 W (vl7 W h) (vl12 W h) (by decide +kernel) (by decide +kernel)
    rw [ex_k13, vv_0, vv_0] at this
    exact this
  clear n0 n1 n2 n3 n4 n5 n6 n7 n8 n9 n10 n11 n12 R0 R1 R2 R3 R4 R5 R6 R7 R8 R9 R10 R11 R12 hB1 hB2 hB3 hB4 hB5 hB6 hB7 hB8 hB9 hB10 hB11 hB12 hB13 t1 t3 t8 v6 v10 v11 vl7 vl12
  have HW1 := Lib.hid hw1
  have HW2 := Lib.hid hw2
  have HW3 := Lib.hid hw3
  have HW4 := Lib.hid hw4
  have HW5 := Lib.hid hw5
  have HW6 := Lib.hid hw6
  have HW7 := Lib.hid hw7
  have HW8 := Lib.hid hw8
  have HW9 := Lib.hid hw9
  have HW10 := Lib.hid hw10
  have HW11 := Lib.hid hw11
  have HW12 := Lib.hid hw12
  have HW13 := Lib.hid hw13
  have HZ := Lib.hid hz13
  clear hw1 hz1 hw2 hz2 hw3 hz3 hw4 hz4 hw5 hz5 hw6 hz6 hw7 hz7 hw8 hz8 hw9 hz9 hw10 hz10 hw11 hz11 hw12 hz12 hw13 hz13
  go_enter Tryd.func8, Tryd.ntmps8
  go_wp2_with fail
  rw [HW1.out, HW2.out, HW3.out, HW4.out, HW5.out, HW6.out, HW7.out, HW8.out, HW9.out, HW10.out, HW11.out, HW12.out, HW13.out]
  clear HW1 HW2 HW3 HW4 HW5 HW6 HW7 HW8 HW9 HW10 HW11 HW12 HW13
  have B13 : Below w13.heap.size w13 w13 := Below.refl _ _
  refine (k1.out _ B13).mono ?_
  rintro e w14 ⟨rfl, hb14⟩
  have B14 := B13.trans (hb14.mono B13.size)
  have e14 : ∀ b o, b < w.heap.size + 13 → w14.cell? ⟨b, o, none⟩ = w13.cell? ⟨b, o, none⟩ := fun b o h => B14.cell (p := ⟨b, o, none⟩) (by rw [HZ.out]; exact h)
  clear hb14
  go_wp2_with fail
  refine (k2.out _ B14).mono ?_
  rintro e w15 ⟨rfl, hb15⟩
  have B15 := B14.trans (hb15.mono B14.size)
  have e15 : ∀ b o, b < w.heap.size + 13 → w15.cell? ⟨b, o, none⟩ = w13.cell? ⟨b, o, none⟩ := fun b o h => B15.cell (p := ⟨b, o, none⟩) (by rw [HZ.out]; exact h)
  clear hb15 e14
  go_wp2_with fail
  refine (k3.out _ B15).mono ?_
  rintro e w16 ⟨rfl, hb16⟩
  have B16 := B15.trans (hb16.mono B15.size)
  have e16 : ∀ b o, b < w.heap.size + 13 → w16.cell? ⟨b, o, none⟩ = w13.cell? ⟨b, o, none⟩ := fun b o h => B16.cell (p := ⟨b, o, none⟩) (by rw [HZ.out]; exact h)
  clear hb16 e15
  go_wp2_with fail
  refine (k4.out _ B16).mono ?_
  rintro e w17 ⟨rfl, hb17⟩
  have B17 := B16.trans (hb17.mono B16.size)
  have e17 : ∀ b o, b < w.heap.size + 13 → w17.cell? ⟨b, o, none⟩ = w13.cell? ⟨b, o, none⟩ := fun b o h => B17.cell (p := ⟨b, o, none⟩) (by rw [HZ.out]; exact h)
  clear hb17 e16
  go_wp2_with fail
  refine (k5.out _ B17).mono ?_
  rintro e w18 ⟨rfl, hb18⟩
  have B18 := B17.trans (hb18.mono B17.size)
  have e18 : ∀ b o, b < w.heap.size + 13 → w18.cell? ⟨b, o, none⟩ = w13.cell? ⟨b, o, none⟩ := fun b o h => B18.cell (p := ⟨b, o, none⟩) (by rw [HZ.out]; exact h)
  clear hb18 e17
  go_wp2_with fail
  refine (k6.out _ B18).mono ?_
  rintro e w19 ⟨rfl, hb19⟩
  have B19 := B18.trans (hb19.mono B18.size)
  have e19 : ∀ b o, b < w.heap.size + 13 → w19.cell? ⟨b, o, none⟩ = w13.cell? ⟨b, o, none⟩ := fun b o h => B19.cell (p := ⟨b, o, none⟩) (by rw [HZ.out]; exact h)
  clear hb19 e18
  go_wp2_with fail
  refine (k7.out _ B19).mono ?_
  rintro e w20 ⟨rfl, hb20⟩
  have B20 := B19.trans (hb20.mono B19.size)
  have e20 : ∀ b o, b < w.heap.size + 13 → w20.cell? ⟨b, o, none⟩ = w13.cell? ⟨b, o, none⟩ := fun b o h => B20.cell (p := ⟨b, o, none⟩) (by rw [HZ.out]; exact h)
  clear hb20 e19
  go_wp2_with fail
  refine (k8.out _ B20).mono ?_
  rintro e w21 ⟨rfl, hb21⟩
  have B21 := B20.trans (hb21.mono B20.size)
  have e21 : ∀ b o, b < w.heap.size + 13 → w21.cell? ⟨b, o, none⟩ = w13.cell? ⟨b, o, none⟩ := fun b o h => B21.cell (p := ⟨b, o, none⟩) (by rw [HZ.out]; exact h)
  clear hb21 e20
  go_wp2_with fail
  refine (k9.out _ B21).mono ?_
  rintro e w22 ⟨rfl, hb22⟩
  have B22 := B21.trans (hb22.mono B21.size)
  have e22 : ∀ b o, b < w.heap.size + 13 → w22.cell? ⟨b, o, none⟩ = w13.cell? ⟨b, o, none⟩ := fun b o h => B22.cell (p := ⟨b, o, none⟩) (by rw [HZ.out]; exact h)
  clear hb22 e21
  go_wp2_with fail
  refine (k10.out _ B22).mono ?_
  rintro e w23 ⟨rfl, hb23⟩
  have B23 := B22.trans (hb23.mono B22.size)
  have e23 : ∀ b o, b < w.heap.size + 13 → w23.cell? ⟨b, o, none⟩ = w13.cell? ⟨b, o, none⟩ := fun b o h => B23.cell (p := ⟨b, o, none⟩) (by rw [HZ.out]; exact h)
  clear hb23 e22
  go_wp2_with fail
  refine (k11.out _ B23).mono ?_
  rintro e w24 ⟨rfl, hb24⟩
  have B24 := B23.trans (hb24.mono B23.size)
  have e24 : ∀ b o, b < w.heap.size + 13 → w24.cell? ⟨b, o, none⟩ = w13.cell? ⟨b, o, none⟩ := fun b o h => B24.cell (p := ⟨b, o, none⟩) (by rw [HZ.out]; exact h)
  clear hb24 e23
  go_wp2_with fail
  refine (k12.out _ B24).mono ?_
  rintro e w25 ⟨rfl, hb25⟩
  have B25 := B24.trans (hb25.mono B24.size)
  have e25 : ∀ b o, b < w.heap.size + 13 → w25.cell? ⟨b, o, none⟩ = w13.cell? ⟨b, o, none⟩ := fun b o h => B25.cell (p := ⟨b, o, none⟩) (by rw [HZ.out]; exact h)
  clear hb25 e24
  go_wp2_with fail
  refine (k13.out _ B25).mono ?_
  rintro e w26 ⟨rfl, hb26⟩
  have B26 := B25.trans (hb26.mono B25.size)
  have e26 : ∀ b o, b < w.heap.size + 13 → w26.cell? ⟨b, o, none⟩ = w13.cell? ⟨b, o, none⟩ := fun b o h => B26.cell (p := ⟨b, o, none⟩) (by rw [HZ.out]; exact h)
  clear hb26 e25
  go_wp2_with fail
  go_ret
  exact ⟨rfl, hwB.trans (B26.mono (by have := HZ.out; omega))⟩
end Go.Proofs.YtmlkccbhdhgoeaaDoor
