/-
  product: of limbs, in new memory.
-/
import Derived.Test.YtcmhfeeocehlaaaGreatDoorDiff
namespace Go.Proofs.YtcmhfeeocehlaaaGreatDoor
set_option linter.unusedSimpArgs false
set_option linter.unusedVariables false
open Go.RowKit

theorem set_end (P N : List Nat) (k j n cy : Nat) (hP : P.length = k) (hN : N.length = j) (hk : k < n) : (P ++ N ++ List.replicate (n - k) 0).set (k + j) cy = P ++ N ++ [cy] ++ List.replicate (n - (k + 1)) 0 := by
  have e : n - k = (n - (k + 1)) + 1 := by omega
  rw [e, List.replicate_succ, List.set_append_right _ _ (by simp; omega)]
  have e2 : k + j - (P ++ N).length = 0 := by simp; omega
  rw [e2, List.set_cons_zero]
  simp only [List.append_assoc, List.cons_append, List.nil_append]

end Go.Proofs.YtcmhfeeocehlaaaGreatDoor
