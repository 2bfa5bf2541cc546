/- How many items come to how many bytes. -/
import Derived.Test.YtcjhgnepehnjjaaDoorM12
import Derived.Test.YtcjhgnepehnjjaaDoorM15
namespace Go.Proofs.YtcjhgnepehnjjaaDoor
namespace M
mutual
theorem cnt_le : ∀ (x : It) (d : Nat), formI d x = 0 → cntI x ≤ (bytesI x).length
  | .mk true b xs, d, h => by
    obtain ⟨_, _, _, h4⟩ := (formI_ok h).1 rfl
    have := cnts_le xs (d + 1) h4
    have h1 := bytesI_ne (.mk true b xs)
    rw [cntI]
    rw [bytesI] at h1 ⊢
    by_cases hz : (bytesIs xs).length = 0
    · have := Nat.pos_of_ne_zero h1
      omega
    · have h2 : 1 ≤ (hdL (bytesIs xs).length 192).length := by
        unfold hdL
        split <;> simp
      rw [List.length_append]
      omega
  | .mk false b xs, d, h => by
    have := (formI_ok h).2 rfl
    subst this
    have h1 := Nat.pos_of_ne_zero fun h => bytesI_ne (.mk false b []) h
    rw [cntI, cntIs]
    omega
theorem cnts_le : ∀ (xs : List It) (d : Nat), formIs d xs = 0 → cntIs xs ≤ (bytesIs xs).length
  | [], _, _ => by simp [cntIs]
  | x :: xs, d, h => by
    obtain ⟨h1, h2⟩ := formIs_ok h
    have e1 := cnt_le x d h1
    have e2 := cnts_le xs d h2
    rw [cntIs, bytesIs, List.length_append]
    omega
end
end M
end Go.Proofs.YtcjhgnepehnjjaaDoor
